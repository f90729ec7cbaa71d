import PyProof.Rows.All
import Wide.All
import OpenK.AllK
import Wide.FinOn
import Lean
import PyProof.EqAt
import PyProof.EqKinds
import PyProof.TupleCall
import PySem.Challenge.RW_lentwork_k32_what_is_no_line
set_option Elab.async false
set_option linter.all false
set_option maxRecDepth 100000
namespace L2
open PySem PySem.Spec PyProof.Rows
abbrev Key:=Sum Int Str
def sT:Key->Value->Bool
 | .inl k,v=>Value.isInt k v
 | .inr x,v=>Value.isStrOf x v
def keyH (w:World):Key->Int
 | .inl k=>hashInt k
 | .inr x=>hashStr w x
theorem dM:∀{k:Key} {v:Value},sT k v=true->(∃i t,k=Sum.inl i/\v=Value.int i t)\/(∃x t,k=Sum.inr x/\v=Value.str x t)
 | .inl i,v,h=>by
  obtain⟨t,e⟩:=Value.isInt_shape (k:=i) (v:=v) h
  exact .inl ⟨i,t,rfl,e⟩
 | .inr x,v,h=>by
  obtain⟨t,e⟩:=Value.isStrOf_shape (x:=x) (v:=v) h
  exact .inr ⟨x,t,rfl,e⟩
theorem AdE (i:Int) (t:Tok):sT (.inl i) (.int i t)=true:=by simp [sT,Value.isInt]
theorem AdD (x:Str) (t:Tok):sT (.inr x) (.str x t)=true:=by simp [sT,Value.isStrOf]
theorem key_ll (a b:Int):decide ((Sum.inl a:Key)=Sum.inl b)=(a == b):=by
 by_cases e:a=b
 ·subst e;simp
 ·have h:¬ (Sum.inl a:Key)=Sum.inl b:=fun q=>e (Sum.inl.inj q)
  rw [decide_eq_false h]
  exact(beq_eq_false_iff_ne.mpr e).symm
theorem key_rr (a b:Str):decide ((Sum.inr a:Key)=Sum.inr b)=decide (a=b):=by
 by_cases e:a=b
 ·subst e;simp
 ·have h:¬ (Sum.inr a:Key)=Sum.inr b:=fun q=>e (Sum.inr.inj q)
  rw [decide_eq_false h,decide_eq_false e]
theorem key_lr (a:Int) (b:Str):decide ((Sum.inl a:Key)=Sum.inr b)=false:=decide_eq_false (fun q=>nomatch q)
theorem key_rl (a:Str) (b:Int):decide ((Sum.inr a:Key)=Sum.inl b)=false:=decide_eq_false (fun q=>nomatch q)
def cY (prog:Program) (w:World):PySem.KeyKind prog w Key where
 is:=sT
 hash:=keyH w
 inj:=fun v a b ha hb=>by
  rcases dM ha with ⟨i,t,rfl,rfl⟩|⟨x,t,rfl,rfl⟩
  ·rcases dM hb with ⟨j,u,rfl,e⟩|⟨y,u,rfl,e⟩
   ·injection e with e1 _;rw [e1]
   ·exact nomatch e
  ·rcases dM hb with ⟨j,u,rfl,e⟩|⟨y,u,rfl,e⟩
   ·exact nomatch e
   ·injection e with e1 _;rw [e1]
 byValue:=fun k v h=>by
  rcases dM h with ⟨i,t,rfl,rfl⟩|⟨x,t,rfl,rfl⟩ <;> rfl
 pyHash:=fun hv h=>by
  rcases dM hv with ⟨i,t,rfl,rfl⟩|⟨x,t,rfl,rfl⟩
  ·exact wpAny_pyHash_int h
  ·exact wpAny_pyHash_str h
 eqBool:=fun hu hv h=>by
  rcases dM hu with ⟨i,t,rfl,rfl⟩|⟨x,t,rfl,rfl⟩
  ·rcases dM hv with ⟨j,u,rfl,rfl⟩|⟨y,u,rfl,rfl⟩
   ·rw [key_ll] at h;exact wpAny_eqBool_int h
   ·rw [key_lr] at h;exact SeqAt.EqAt.int_str i t y u _ _ _ _ h
  ·rcases dM hv with ⟨j,u,rfl,rfl⟩|⟨y,u,rfl,rfl⟩
   ·rw [key_rl] at h;exact SeqAt.EqAt.str_int x t j u _ _ _ _ h
   ·rw [key_rr] at h;exact wpAny_eqBool_str h
 «strs»:=fun k x t v h=>by
  rcases dM h with ⟨i,u,rfl,e⟩|⟨y,u,rfl,e⟩
  ·exact nomatch e
  ·injection e with e1 _
   subst e1
   cases v <;> rfl
theorem wR (prog:Program) (w:World) (i:Int) (t:Tok):(cY prog w).is (.inl i) (.int i t)=true:=AdE i t
theorem wQ (prog:Program) (w:World) (x:Str) (t:Tok):(cY prog w).is (.inr x) (.str x t)=true:=AdD x t
inductive V where
 | non|bl (b:Bool)|int (i:Int)|str (x:Str)|byt (b:Array UInt8)|flt (b:UInt64)|ref (a:Addr)|ty (n:String)
 deriving DecidableEq
def cK:V->Value->Prop
 | .non,u=>u=Value.none
 | .bl b,u=>u=Value.bool b
 | .int i,u=>∃t,u=Value.int i t
 | .str x,u=>∃t,u=Value.str x t
 | .byt b,u=>∃t,u=Value.bytes b t
 | .flt b,u=>∃t,u=Value.float b t
 | .ref a,u=>u=Value.ref a
 | .ty n,u=>u=Value.type n
abbrev cE:List V->List Value->Prop:=Paired cK
theorem cE.length {xs:List V} {us:List Value} (r:cE xs us):xs.length=us.length:=Paired.length r
theorem cE.get:∀{xs:List V} {us:List Value} {i:Nat} {x:V},cE xs us->xs[i]?=some x->∃u,us[i]?=some u/\cK x u
 | _,_,_,_,.nil,e=>by simp at e
 | _,_,0,_,.cons r _,e=>by simp at e;subst e;exact⟨_,rfl,r⟩
 | _,_,i+1,x,.cons _ t,e=>by
  obtain⟨u,h1,h2⟩:=cE.get (i:=i) (x:=x) t (by simpa using e)
  exact⟨u,by simpa using h1,h2⟩
theorem cE.set {x:V} {u:Value} (r:cK x u):∀{xs:List V} {us:List Value} (i:Nat),cE xs us->cE (xs.set i x) (us.set i u)
 | _,_,_,.nil=>.nil
 | _,_,0,.cons _ t=>.cons r t
 | _,_,i+1,.cons q t=>.cons q (cE.set r i t)
theorem cE.append:∀{xs ys:List V} {us ws:List Value},cE xs us->cE ys ws->cE (xs++ys) (us++ws)
 | _,_,_,_,.nil,s=>s
 | _,_,_,_,.cons r t,s=>.cons r (cE.append t s)
theorem cE.take:∀{xs:List V} {us:List Value} (n:Nat),cE xs us->cE (xs.take n) (us.take n)
 | _,_,0,_=>.nil
 | _,_,_+1,.nil=>.nil
 | _,_,n+1,.cons r t=>.cons r (cE.take n t)
theorem cE.drop:∀{xs:List V} {us:List Value} (n:Nat),cE xs us->cE (xs.drop n) (us.drop n)
 | _,_,0,r=>r
 | _,_,_+1,.nil=>.nil
 | _,_,n+1,.cons _ t=>cE.drop n t
def iU:Option V->Option Value->Prop
 | some v,some u=>cK v u
 | none,none=>True
 | _,_=>False
def KV {κ:Type}:List (κ × V)->List (κ × Value)->Prop:=Paired fun(p:κ × V) (q:κ × Value)=>p.1=q.1/\cK p.2 q.2
def kV:Key->V
 | .inl i=>.int i
 | .inr x=>.str x
inductive HO where
 | lst (xs:List V)
 | tup (xs:List V)
 | dK (kvs:List (Key × V))|dT (kvs:List (List Key × V))
 | set (S:Int->Bool) (n:Nat)
 | ins (C dx:Addr) (fs:List (Str × V))
 | own (x:Addr)
 | xd (fs:List (Str × V))
 | met (f x:Addr)
 | rng (lo hi:Int)
 | frz (o:Obj) (u:HO)
 | tbl (ps:Array Value)
 | ext (φ:Heap->Prop)
abbrev Hp:=Addr->Option HO
def upd (H:Hp) (a:Addr) (o:HO):Hp:=fun b=>if b=a then some o else H b
theorem aD {H:Hp} {a:Addr} {o:HO}:upd H a o a=some o:=by unfold upd;rw [if_pos rfl]
theorem aG {H:Hp} {a b:Addr} {o:HO} (h:b≠a):upd H a o b=H b:=by unfold upd;rw [if_neg h]
theorem eI {H:Hp} {a:Addr} {o u:HO}:upd (upd H a o) a u=upd H a u:=by
 funext b;unfold upd;split <;> rfl
theorem aX {H:Hp} {a b:Addr} {o u:HO} (h:H a=some o) (h':H b=some u) (d:o≠u):a≠b:=by
 intro e;subst e;rw [h] at h';exact d (Option.some.inj h')
theorem aF {H:Hp} {a b:Addr} {o:HO} (h:H a=some o) (h':H b=none):a≠b:=by
 intro e;subst e;rw [h] at h';cases h'
section
variable (P:Program) (w:World)
def cL (H:Hp) (h:Heap) (a:Addr):HO->Prop
 | .lst xs=>xs.length<=sizeLine/\∃(its:List Value) (n:Nat),cE xs its/\h.get? a=some { cls:=.type "list",data:=.seq its.toArray n }
 | .tup xs=>xs.length<=sizeLine/\∃its:List Value,cE xs its/\IsTup h a its.toArray
 | .dK kvs=>kvs.length<=sizeLine/\(a == sysModules)=false/\∃vs,KV kvs vs/\h.DictOf (cY P w) a vs
 | .dT kvs=>kvs.length<=sizeLine/\(a == sysModules)=false/\∃xs:List (List Key × Addr × Value),
   Paired (fun(p:List Key × V) (q:List Key × Addr × Value)=>p.1=q.1/\H q.2.1=some (.tup (p.1.map kV))/\cK p.2 q.2.2) kvs xs /\
   ∃o es ep,h.get? a=some o/\o.ExactDict/\o.data=.dict es ep/\es.toList=xs.map (entryOfKey (tupleKind (cY P w)))/\(xs.map (·.1)).Nodup
 | .set S n=>h.SetOf (intKind P w) a S n
 | .ins C dx fs=>H dx=some (.own a)/\fs.length<=1000/\dx≠a/\h.get? a=some (PySem.W.instObj C dx) /\
   ∃mA,h.Ns1 dx mA/\(∀f,iU (fs.lookup f) (mA f))/\PySem.Within mA (fs.map (·.1))
 | .own _=>∃o,h.get? a=some o
 | .xd fs=>∃mA,h.Ns1 a mA/\∀f,iU (fs.lookup f) (mA f)
 | .rng lo hi=>∃t u v,h.get? a=some { cls:=.type "range",data:=.fields #[.int lo t,.int hi u,.int 1 v] }
 | .frz o u=>h.get? a=some o/\cL H h a u
 | .tbl ps=>h.get? a=some { cls:=.none,data:=.fields ps }
 | .met f x=>h.get? a=some (PySem.W.methodObj (.ref f) (.ref x))
 | .ext φ=>φ h/\(∃o,h.get? a=some o)/\∀h1 h2:Heap,φ h1->(∀o,h1.get? a=some o->h2.get? a=some o)->φ h2
def HOk (H:Hp) (h:Heap):Prop:=∀a o,H a=some o->cL P w H h a o
end
section
variable {P:Program} {w:World} {H H':Hp} {h h':Heap} {a:Addr} {o:HO}
theorem cL.lt (x:cL P w H h a o):a<h.objs.size:=by
 cases o with
 | lst xs=>obtain⟨_,_,_,_,e⟩:=x;exact Heap.lt_size e
 | tup xs=>obtain⟨_,_,_,p⟩:=x;exact p.lt
 | dK kvs=>obtain⟨_,_,_,_,o,_,_,e,_⟩:=x;exact Heap.lt_size e
 | dT kvs=>obtain⟨_,_,_,_,o,_,_,e,_⟩:=x;exact Heap.lt_size e
 | set S n=>obtain⟨o,_,_,_,e,_⟩:=x;exact Heap.lt_size e
 | ins C dx fs=>obtain⟨_,_,_,e,_⟩:=x;exact Heap.lt_size e
 | own y=>obtain⟨_,e⟩:=x;exact Heap.lt_size e
 | xd fs=>obtain⟨_,⟨_,_,_,e,_⟩,_⟩:=x;exact Heap.lt_size e
 | rng lo hi=>obtain⟨_,_,_,e⟩:=x;exact Heap.lt_size e
 | frz ob u=>obtain⟨e,_⟩:=x;exact Heap.lt_size e
 | tbl ps=>exact Heap.lt_size (show h.get? a=some _ from x)
 | met f y=>exact Heap.lt_size (show h.get? a=some _ from x)
 | ext φ=>obtain⟨_,⟨_,e⟩,_⟩:=x;exact Heap.lt_size e
theorem Paired.mapP {α β:Type} {F G:α->β->Prop}:∀{l₁:List α} {l₂:List β},Paired F l₁ l₂->(∀a b,F a b->G a b)->Paired G l₁ l₂
 | _,_,.nil,_=>.nil
 | _,_,.cons r t,f=>.cons (f _ _ r) (Paired.mapP t f)
theorem cL.stay (x:cL P w H h a o) (k:∀b u,(b=a\/H b=some (.own a))->h.get? b=some u->h'.get? b=some u)
  (ho:∀b,H b=some (.own a)->H' b=some (.own a)) (ht:∀b xs,H b=some (.tup xs)->H' b=some (.tup xs)):cL P w H' h' a o:=by
 induction o with
 | lst xs=>obtain⟨z,its,n,r,e⟩:=x;exact⟨z,its,n,r,k _ _ (.inl rfl) e⟩
 | tup xs=>obtain⟨z,its,r,ob,e,c⟩:=x;exact⟨z,its,r,ob,k _ _ (.inl rfl) e,c⟩
 | dK kvs=>obtain⟨z,y,vs,r,ob,es,ep,e,c⟩:=x;exact⟨z,y,vs,r,ob,es,ep,k _ _ (.inl rfl) e,c⟩
 | dT kvs=>
  obtain⟨z,y,xs,r,ob,es,ep,e,c⟩:=x
  exact⟨z,y,xs,Paired.mapP r fun p q z=>⟨z.1,ht _ _ z.2.1,z.2.2⟩,ob,es,ep,k _ _ (.inl rfl) e,c⟩
 | set S n=>obtain⟨ob,es,ep,t,e,c⟩:=x;exact⟨ob,es,ep,t,k _ _ (.inl rfl) e,c⟩
 | ins C dx fs=>
  obtain⟨d,z,ne,e,mA,⟨od,es,ep,e2,c⟩,r⟩:=x
  exact⟨ho _ d,z,ne,k _ _ (.inl rfl) e,mA,⟨od,es,ep,k _ _ (.inr d) e2,c⟩,r⟩
 | own y=>obtain⟨ob,e⟩:=x;exact⟨ob,k _ _ (.inl rfl) e⟩
 | xd fs=>obtain⟨mA,⟨od,es,ep,e,c⟩,r⟩:=x;exact⟨mA,⟨od,es,ep,k _ _ (.inl rfl) e,c⟩,r⟩
 | rng lo hi=>obtain⟨t,u,v,e⟩:=x;exact⟨t,u,v,k _ _ (.inl rfl) e⟩
 | frz ob u ih=>obtain⟨e,q⟩:=x;exact⟨k _ _ (.inl rfl) e,ih q⟩
 | tbl ps=>
  have e:h.get? a=some { cls:=.none,data:=.fields ps }:=x
  show h'.get? a=some { cls:=.none,data:=.fields ps }
  exact k a _ (.inl rfl) e
 | met f y=>
  have e:h.get? a=some (PySem.W.methodObj (.ref f) (.ref y)):=x
  show h'.get? a=some (PySem.W.methodObj (.ref f) (.ref y))
  exact k a _ (.inl rfl) e
 | ext φ=>obtain⟨p,⟨o,e⟩,st⟩:=x;exact⟨st _ _ p fun o q=>k _ _ (.inl rfl) q,⟨o,k _ _ (.inl rfl) e⟩,st⟩
theorem HOk.lt (x:HOk P w H h) (e:H a=some o):a<h.objs.size:=(x a o e).lt
theorem HOk.fresh (x:HOk P w H h) (e:h.objs.size<=a):H a=none:=by
 cases q:H a with
 | none=>rfl
 | some u=>exact absurd (Nat.lt_of_lt_of_le (x.lt q) e) (Nat.lt_irrefl _)
theorem HOk.kept (x:HOk P w H h) (k:∀b u,h.get? b=some u->h'.get? b=some u):HOk P w H h':=fun a o e=>
 (x a o e).stay (fun b u _ q=>k b u q) (fun _ q=>q) fun _ _ q=>q
theorem HOk.laid (x:HOk P w H h) (k:∀b u,h.get? b=some u->h'.get? b=some u) (hp:h.objs.size<=a) (new:cL P w (upd H a o) h' a o):HOk P w (upd H a o) h':=fun b u e=>by
 have hn:=x.fresh hp
 by_cases hb:b=a
 ·subst hb;rw [aD] at e;cases e;exact new
 ·rw [aG hb] at e
  exact(x b u e).stay (fun c v _ q=>k c v q) (fun c q=>by rw [aG (aF q hn)];exact q) fun c xs q=>by rw [aG (aF q hn)];exact q
end
def Rd (H:Hp) (a:Addr) (u:HO):Prop:=H a=some u\/∃o,H a=some (.frz o u)
theorem Rd.ok {P:Program} {w:World} {H:Hp} {h:Heap} {a:Addr} {u:HO} (r:Rd H a u) (x:HOk P w H h):cL P w H h a u:=by
 rcases r with r|⟨o,r⟩
 ·exact x a u r
 ·obtain⟨_,q⟩:=x a _ r
  exact q
def Mut:Option HO->Prop
 | some (.lst _)=>True
 | some (.dK _)=>True
 | some (.dT _)=>True
 | some (.set _ _)=>True
 | some (.ins _ _ _)=>True
 | some (.ext _)=>True
 | _=>False
section
variable {P:Program} {w:World} {H:Hp} {h h':Heap} {x e:Addr} {o':HO}
theorem HOk.write (ok:HOk P w H h) (mu:Mut (H x)) (he:e=x\/H e=some (.own x)) (k:∀b u,b≠e->h.get? b=some u->h'.get? b=some u) (heo:∃u,h'.get? e=some u)
  (new:cL P w (upd H x o') h' x o'):HOk P w (upd H x o') h':=fun b u q=>by
 have nown:∀c y,H c=some (.own y)->c≠x:=fun c y r z=>by subst z;rw [r] at mu;exact mu
 have ntup:∀c xs,H c=some (.tup xs)->c≠x:=fun c xs r z=>by subst z;rw [r] at mu;exact mu
 by_cases hb:b=x
 ·subst hb;rw [aD] at q;cases q;exact new
 ·rw [aG hb] at q
  by_cases hbe:b=e
  ·have q':H b=some (.own x):=by
    rcases he with z|z
    ·exact absurd (hbe.trans z) hb
    ·rw [hbe];exact z
   rw [q] at q';cases q'
   obtain⟨v,hv⟩:=heo
   exact⟨v,by rw [hbe];exact hv⟩
  ·refine(ok b u q).stay (fun c v hc r=>k c v ?_ r) (fun c r=>by rw [aG (nown c b r)];exact r) fun c xs r=>by rw [aG (ntup c xs r)];exact r
   rcases hc with rfl|hc
   ·exact hbe
   ·rintro rfl
    rcases he with z|z
    ·exact nown c b hc z
    ·rw [hc] at z;cases z;exact hb rfl
end
structure Un (fs ex:List Addr) (H H':Hp) (h h':Heap):Prop where
 keep:∀b o,h.get? b=some o->H b=none->b ∉ fs->b ∉ ex->h'.get? b=some o
 slot:∀b o,h.get? b=some o->H b=none->b ∈ fs->b ∉ ex->∃sl,h'.get? b=some { o with slots:=sl }
 free:∀b o,h.get? b=some o->H b=none->b ∉ ex->H' b=none
 there:∀b o,h.get? b=some o->b ∉ ex->∃o',h'.get? b=some o'
 tups:∀b xs,H b=some (.tup xs)->H' b=some (.tup xs)
 frzs:∀b o u,H b=some (.frz o u)->H' b=some (.frz o u)
 tbls:∀b ps,H b=some (.tbl ps)->∃more,H' b=some (.tbl (ps++more))
section
variable {fs fs' ex ex':List Addr} {H H1 H2:Hp} {h h1 h2 h':Heap} {a x e:Addr} {o:HO}
theorem Un.any (u:Un fs ex H H1 h h1) {b:Addr} {ob:Obj} (q:h.get? b=some ob) (n:H b=none) (hx:b ∉ ex):∃sl,h1.get? b=some { ob with slots:=sl }:=by
 by_cases hb:b ∈ fs
 ·exact u.slot b ob q n hb hx
 ·exact⟨ob.slots,u.keep b ob q n hb hx⟩
theorem Un.kept (k:∀b u,h.get? b=some u->h'.get? b=some u):Un fs ex H H h h':=
 ⟨fun b ob q _ _ _=>k b ob q,fun b ob q _ _ _=>⟨ob.slots,k b ob q⟩,fun _ _ _ n _=>n,fun b ob q _=>⟨ob,k b ob q⟩,fun _ _ q=>q,fun _ _ _ q=>q,fun _ ps q=>⟨#[],by rw [q];simp⟩⟩
theorem Un.refl:Un fs ex H H h h:=Un.kept fun _ _ q=>q
theorem Un.laid (k:∀b u,h.get? b=some u->h'.get? b=some u) (hp:h.objs.size<=a) (hn:H a=none):Un fs ex H (upd H a o) h h' where
 keep:=fun b u q _ _ _=>k b u q
 slot:=fun b u q _ _ _=>⟨u.slots,k b u q⟩
 free:=fun b u q n _=>by rw [aG (Nat.ne_of_lt (Nat.lt_of_lt_of_le (Heap.lt_size q) hp))];exact n
 there:=fun b u q _=>⟨u,k b u q⟩
 tups:=fun b xs q=>by rw [aG (aF q hn)];exact q
 frzs:=fun b u xs q=>by rw [aG (aF q hn)];exact q
 tbls:=fun b ps q=>⟨#[],by rw [aG (aF q hn),q];simp⟩
theorem Un.write (mu:Mut (H x)) (he:e=x\/H e=some (.own x)) (k:∀b u,b≠e->h.get? b=some u->h'.get? b=some u) (heo:∃u,h'.get? e=some u):Un fs ex H (upd H x o) h h':=by
 have hx:∀b,H b=none->b≠x:=fun b n z=>by subst z;rw [n] at mu;exact mu
 have hb:∀b,H b=none->b≠e:=fun b n z=>by
  subst z
  rcases he with r|r
  ·exact hx b n r
  ·rw [n] at r;cases r
 have hm:∀b u,H b=some u->¬ Mut (some u)->b≠x:=fun b u q nm z=>by subst z;rw [q] at mu;exact nm mu
 refine⟨fun b u q n _ _=>k b u (hb b n) q,fun b u q n _ _=>⟨u.slots,k b u (hb b n) q⟩,fun b u q n _=>by rw [aG (hx b n)];exact n,fun b u q _=>?_,
  fun b xs q=>by rw [aG (hm b _ q fun z=>z)];exact q,fun b u xs q=>by rw [aG (hm b _ q fun z=>z)];exact q,fun b ps q=>⟨#[],by rw [aG (hm b _ q fun z=>z),q];simp⟩⟩
 by_cases hbe:b=e
 ·subst hbe;exact heo
 ·exact⟨u,k b u hbe q⟩
end
def trk (h:Heap) (H:Hp):List Addr:=(List.range h.objs.size).filter fun a=>(H a).isSome
def rW (h:Heap) (H:Hp):Heap:=PySem.W.hideAll h (trk h H)
theorem AdH (h:Heap) (H:Hp):(rW h H).objs.size=h.objs.size:=PySem.W.hideAll_size _ _
theorem AgN {h:Heap} {H:Hp} {b:Addr} {o:Obj} (e:h.get? b=some o) (n:H b=none):(rW h H).get? b=some o:=
 PySem.W.hideAll_get _ e fun hm=>by
  have q:(H b).isSome=true:=(List.mem_filter.mp hm).2
  rw [n] at q;simp at q
theorem of_hidT {h:Heap} {H:Hp} {b:Addr} {o:Obj} (e:(rW h H).get? b=some o):h.get? b=some o/\H b=none:=by
 have e':h.get? b=some o:=PySem.W.of_hideAll (trk h H) e
 refine⟨e',?_⟩
 cases q:H b with
 | none=>rfl
 | some x=>
  have hm:b ∈ trk h H:=List.mem_filter.mpr ⟨List.mem_range.mpr (Heap.lt_size e'),by simp [q]⟩
  have z:(rW h H).get? b=none:=PySem.W.hideAll_none (trk h H) hm
  rw [z] at e;cases e
def pH (g h:Heap) (L:Addr):List (Addr × Obj):=(List.range h.objs.size).filterMap fun a=>if a=L\/(g.get? a).isSome=true then none else(h.get? a).map fun o=>(a,o)
theorem jG {g h:Heap} {L a:Addr} {o:Obj} (h1:a≠L) (h2:g.get? a=none) (h3:h.get? a=some o):(a,o) ∈ pH g h L:=
 List.mem_filterMap.mpr ⟨a,List.mem_range.mpr (Heap.lt_size h3),by simp [h1,h2,h3]⟩
theorem qR {g h:Heap} {L:Addr} {p:Addr × Obj} (hp:p ∈ pH g h L):p.1≠L/\g.get? p.1=none/\h.get? p.1=some p.2:=by
 obtain⟨b,_,e⟩:=List.mem_filterMap.mp hp
 split at e
 ·cases e
 ·rename_i hn
  cases q:h.get? b with
  | none=>rw [q] at e;simp at e
  | some u=>
   rw [q] at e
   simp only [Option.map_some,Option.some.injEq] at e
   subst e
   refine⟨fun z=>hn (.inl z),?_,q⟩
   show g.get? b=none
   cases r:g.get? b with
   | none=>rfl
   | some v=>exact(hn (.inr (by simp [r]))).elim
theorem qT {g h:Heap} {L:Addr}:News g L h (pH g h L):=fun p hp=>let ⟨a,b,c⟩:=qR hp;⟨c,a,b⟩
structure Mod (K:PySem.W.Frag) (mg:Str->Option Value) (base:Heap):Prop where
 kin:K.In base
 glob:base.Ns mainGlobals mg
 blt:∃mb,base.Ns builtinsNs mb/\∀x:Str,x≠"__name__"->mb x=bootBuiltins x
 nolimit:base.NoLimit
structure Cx where
 prog:Program
 w:World
 K:PySem.W.Frag
 mg:Str->Option Value
 base:Heap
 A:Around
 N:List Str
 s₀:Shared
 H₀:Hp
 env:Env
 outer:List Env
 stack:List Env
 ex:List Addr
 fn:Str->Bool
 calm:Bool
 pn:List (Addr × Obj)
 xe:Value->Shared->Prop
def frs (l:List Env):List Addr:=l.filterMap (·.frame)
abbrev Cx.fs (X:Cx):List Addr:=frs X.outer
def Vis (sc:Scope) (x:Str):Prop:=sc.names.lookup x=some .local\/sc.names.lookup x=some .cell\/sc.names.lookup x=some .free
def Loc (sc:Scope) (x:Str):Prop:=sc.names.lookup x=some .local\/sc.names.lookup x=some .cell
def Look (env:Env) (h:Heap) (m:Str->Option Value) (x:Str) (u:Value):Prop:=
 (env.kindOf x=some .local/\m x=some u)\/((env.kindOf x=some .cell\/env.kindOf x=some .free)/\∃c,env.cells.lookup x=some c/\h.IsCell c (some u))
structure Cx.Ok (X:Cx):Prop where
 mod:Mod X.K X.mg X.base
 kind:X.env.scope.kind=.function
 glob:X.env.globals=mainGlobals
 blt:X.env.builtins=builtinsNs
 above:X.s₀.heap.objs.size<=X.env.locals
 inj:∀x y c,X.env.cells.lookup x=some c->X.env.cells.lookup y=some c->x=y
 has:∀x,(X.env.kindOf x=some .cell\/X.env.kindOf x=some .free)->∃c,X.env.cells.lookup x=some c
 cab:∀x c,X.fn x=true->X.env.cells.lookup x=some c->X.s₀.heap.objs.size<=c
 hd:X.calm=true->X.A.handled=none
 frames:X.A.frames=some X.stack
 stk:X.stack=X.outer\/(X.stack=X.env::X.outer/\X.env.frame=some X.env.locals)
 exf:∀b ∈ X.ex,b≠X.env.locals/\∀x c,X.env.cells.lookup x=some c->c≠b
 bs:∀b o,X.base.get? b=some o->X.s₀.heap.get? b=some o/\X.H₀ b=none
 bsz:X.base.objs.size<=X.s₀.heap.objs.size
 noex:∀b o,X.base.get? b=some o->b ∉ X.ex
 exfs:∀b ∈ X.ex,b ∉ X.fs
 funs:X.s₀.heap.FunFrames X.base X.outer
 frf:∀b ∈ X.fs,X.H₀ b=none
structure Inv (X:Cx) (pins:List (Addr × Obj)) (σ:List (Option V)) (H:Hp) (s:Shared):Prop where
 ok:X.Ok
 os:s.os=X.s₀.os
 bare:AllBare s.gens
 base:Un X.fs X.ex X.H₀ H X.s₀.heap s.heap
 loc:∃m,s.heap.Ns X.env.locals m/\∀(i:Nat) (x:Str) (v:V),X.N[i]?=some x->σ[i]?=some (some v)->Vis X.env.scope x->∃u,cK v u/\Look X.env s.heap m x u
 cell:∀x c,X.env.cells.lookup x=some c->∃v,s.heap.IsCell c v
 free:H X.env.locals=none
 freeC:∀x c,X.env.cells.lookup x=some c->H c=none
 pin:∀p ∈ X.pn++pins,s.heap.get? p.1=some p.2/\H p.1=none/\p.1≠X.env.locals/\p.1 ∉ X.fs/\∀v,p.2.data≠.cell v
 hok:HOk X.prog X.w H s.heap
 len:σ.length=X.N.length
section
variable {X:Cx} {pins:List (Addr × Obj)} {σ:List (Option V)} {H H':Hp} {s:Shared} {h':Heap}
theorem Cx.Ok.nofr (ok:X.Ok) {b:Addr} {o:Obj} (e:X.base.get? b=some o):b ∉ X.fs:=fun hb=>by
 have:=(ok.funs.mem hb).1
 rw [e] at this;cases this
theorem Inv.bs (I:Inv X pins σ H s):∀b o,X.base.get? b=some o->s.heap.get? b=some o/\H b=none:=fun b o e=>
 ⟨I.base.keep b o (I.ok.bs b o e).1 (I.ok.bs b o e).2 (I.ok.nofr e) (I.ok.noex b o e),I.base.free b o (I.ok.bs b o e).1 (I.ok.bs b o e).2 (I.ok.noex b o e)⟩
theorem Inv.bk (I:Inv X pins σ H s):∀b o,X.base.get? b=some o->s.heap.get? b=some o:=fun b o e=>(I.bs b o e).1
theorem Inv.mod (I:Inv X pins σ H s):Mod X.K X.mg X.base:=I.ok.mod
theorem Inv.kIn (I:Inv X pins σ H s):X.K.In s.heap:=I.ok.mod.kin.keeps I.bk
theorem Inv.fr (I:Inv X pins σ H s):∃m,Fr X.base X.env.locals s.heap m:=
 let ⟨m,hn,_⟩:=I.loc
 ⟨m,hn,I.bk,Nat.le_trans I.ok.bsz I.ok.above⟩
theorem Inv.lt (I:Inv X pins σ H s):X.env.locals<s.heap.objs.size:=let ⟨_,hn,_⟩:=I.loc;hn.lt
theorem Inv.sz (I:Inv X pins σ H s):X.s₀.heap.objs.size<=s.heap.objs.size:=Nat.le_trans I.ok.above (Nat.le_of_lt I.lt)
theorem Inv.nofs (I:Inv X pins σ H s) {a:Addr} (h:s.heap.objs.size<=a):a ∉ X.fs:=fun hb=>by
 obtain⟨_,o,ho,_⟩:=I.ok.funs.mem hb
 exact absurd (Nat.lt_of_lt_of_le (Heap.lt_size ho) (Nat.le_trans I.sz h)) (Nat.lt_irrefl _)
theorem Inv.cne (I:Inv X pins σ H s):∀x c,X.env.cells.lookup x=some c->c≠X.env.locals:=fun x c e z=>by
 obtain⟨v,o,ho,hd⟩:=I.cell x c e
 obtain⟨m,⟨o',es,ep,ho',hd',_⟩,_⟩:=I.loc
 rw [z,ho'] at ho;cases ho;rw [hd'] at hd;cases hd
theorem Inv.funs (I:Inv X pins σ H s):s.heap.FunFrames X.base X.outer:=by
 have all:∀(l:List Env),(∀b ∈ frs l,b ∈ X.fs)->X.s₀.heap.FunFrames X.base l->s.heap.FunFrames X.base l:=by
  intro l
  induction l with
  | nil=>intro _ _;trivial
  | cons env r ih=>
   intro hs hl
   obtain⟨hk,⟨L,o,hf,hn,ho,hd⟩,hr⟩:=hl
   have hL:L ∈ X.fs:=hs L (by unfold frs;rw [List.filterMap_cons,hf];exact List.mem_cons_self)
   obtain⟨sl,e⟩:=I.base.slot L o ho (I.ok.frf L hL) hL fun z=>I.ok.exfs L z hL
   exact⟨hk,⟨L,_,hf,hn,e,hd⟩,ih (fun b hb=>hs b (by unfold frs;rw [List.filterMap_cons,hf];exact List.mem_cons_of_mem _ hb)) hr⟩
 exact all X.outer (fun _ hb=>hb) I.ok.funs
theorem Inv.stack (I:Inv X pins σ H s):s.heap.FunFrames X.base X.stack:=by
 rcases I.ok.stk with e|⟨e,hf⟩
 ·rw [e];exact I.funs
 ·rw [e]
  obtain⟨m,hn,_⟩:=I.loc
  refine .cons (by rw [I.ok.kind];decide) hf hn ?_ I.funs
  exact Heap.get?_none_of_le (Nat.le_trans I.ok.bsz I.ok.above)
theorem Inv.stkSub (I:Inv X pins σ H s):∀b ∈ frs X.stack,b ∈ X.env.locals::X.fs:=fun b hb=>by
 rcases I.ok.stk with e|⟨e,hf⟩
 ·rw [e] at hb;exact List.mem_cons_of_mem _ hb
 ·rw [e] at hb
  unfold frs at hb
  rw [List.filterMap_cons,hf] at hb
  exact hb
theorem Inv.stkFree (I:Inv X pins σ H s):∀b ∈ frs X.stack,H b=none:=fun b hb=>by
 rcases List.mem_cons.mp (I.stkSub b hb) with e|hb
 ·rw [e];exact I.free
 ·obtain⟨_,o,ho,_⟩:=I.ok.funs.mem hb
  exact I.base.free b o ho (I.ok.frf b hb) fun z=>I.ok.exfs b z hb
theorem Inv.step {g':Array GenState} {t':Nat} {d':Drawn} {ch:List Addr} (I:Inv X pins σ H s)
  (hch:∀b ∈ ch,(b ∈ X.ex\/X.s₀.heap.objs.size<=b)/\b≠X.env.locals/\(∀x c,X.env.cells.lookup x=some c->c≠b)/\∀p ∈ X.pn++pins,p.1≠b)
  (keep:∀b o,b≠X.env.locals->b ∉ X.fs->b ∉ ch->s.heap.get? b=some o->H b=none->h'.get? b=some o)
  (slot:∀b o,b≠X.env.locals->b ∈ X.fs->b ∉ ch->s.heap.get? b=some o->H b=none->∃sl,h'.get? b=some { o with slots:=sl }) (free:∀b o,b ∉ ch->s.heap.get? b=some o->H b=none->H' b=none)
  (there:∀b o,b ∉ ch->s.heap.get? b=some o->∃o',h'.get? b=some o')
  (tups:∀b xs,H b=some (.tup xs)->H' b=some (.tup xs)) (frzs:∀b o u,H b=some (.frz o u)->H' b=some (.frz o u)) (tbls:∀b ps,H b=some (.tbl ps)->∃more,H' b=some (.tbl (ps++more)))
  (ns:∀m,s.heap.Ns X.env.locals m->h'.Ns X.env.locals m) (hok:HOk X.prog X.w H' h') (hg:AllBare g'):
  Inv X pins σ H' { s with heap:=h',gens:=g',drawn:=d',toks:=t' }:=by
 have neL:∀b o,X.s₀.heap.get? b=some o->b≠X.env.locals:=fun b o e=>Nat.ne_of_lt (Nat.lt_of_lt_of_le (Heap.lt_size e) I.ok.above)
 have neC:∀b o,X.s₀.heap.get? b=some o->b ∉ X.ex->b ∉ ch:=fun b o e hx hb=>by
  rcases (hch b hb).1 with z|z
  ·exact hx z
  ·exact absurd (Nat.lt_of_lt_of_le (Heap.lt_size e) z) (Nat.lt_irrefl _)
 have cellK:∀x c,X.env.cells.lookup x=some c->∀v,s.heap.IsCell c v->h'.IsCell c v:=fun x c e v ⟨o,ho,hd⟩=>by
  have nch:c ∉ ch:=fun z=>(hch c z).2.2.1 x c e rfl
  by_cases hc:c ∈ X.fs
  ·obtain⟨sl,q⟩:=slot c o (I.cne x c e) hc nch ho (I.freeC x c e)
   exact⟨_,q,hd⟩
  ·exact⟨o,keep c o (I.cne x c e) hc nch ho (I.freeC x c e),hd⟩
 refine⟨I.ok,I.os,hg,⟨fun b o e n hb hx=>?_,fun b o e n hb hx=>?_,fun b o e n hx=>?_,fun b o e hx=>?_,fun b xs e=>tups b xs (I.base.tups b xs e),fun b o xs e=>frzs b o xs (I.base.frzs b o xs e),fun b ps e=>?_⟩,?_,fun x c e=>?_,?_,fun x c e=>?_,fun p hp=>?_,hok,I.len⟩
 ·exact keep b o (neL b o e) hb (neC b o e hx) (I.base.keep b o e n hb hx) (I.base.free b o e n hx)
 ·obtain⟨sl,e1⟩:=I.base.slot b o e n hb hx
  obtain⟨sl',e2⟩:=slot b _ (neL b o e) hb (neC b o e hx) e1 (I.base.free b o e n hx)
  exact⟨sl',e2⟩
 ·obtain⟨o',e1⟩:=I.base.there b o e hx
  exact free b o' (neC b o e hx) e1 (I.base.free b o e n hx)
 ·obtain⟨o',e1⟩:=I.base.there b o e hx
  exact there b o' (neC b o e hx) e1
 ·obtain⟨m1,e1⟩:=I.base.tbls b ps e
  obtain⟨m2,e2⟩:=tbls b _ e1
  exact⟨m1++m2,by rw [e2,Array.append_assoc]⟩
 ·obtain⟨m,hn,hl⟩:=I.loc
  refine⟨m,ns m hn,fun i x v e1 e2 e3=>?_⟩
  obtain⟨u,r,l⟩:=hl i x v e1 e2 e3
  refine⟨u,r,?_⟩
  rcases l with l|⟨k,c,e,z⟩
  ·exact .inl l
  ·exact .inr ⟨k,c,e,cellK x c e _ z⟩
 ·obtain⟨v,z⟩:=I.cell x c e
  exact⟨v,cellK x c e v z⟩
 ·obtain⟨m,⟨o,_,_,ho,_⟩,_⟩:=I.loc
  exact free _ o (fun z=>(hch _ z).2.1 rfl) ho I.free
 ·obtain⟨v,o,ho,hd⟩:=I.cell x c e
  exact free c o (fun z=>(hch c z).2.2.1 x c e rfl) ho (I.freeC x c e)
 ·obtain⟨e,n,ne,nf,d⟩:=I.pin p hp
  have nch:p.1 ∉ ch:=fun z=>(hch p.1 z).2.2.2 p hp rfl
  exact⟨keep p.1 p.2 ne nf nch e n,free p.1 p.2 nch e n,ne,nf,d⟩
theorem Inv.un {t':Nat} (I:Inv X pins σ H s) (u:Un X.fs [] H H' s.heap h') (hok:HOk X.prog X.w H' h'):Inv X pins σ H' { s with heap:=h',toks:=t' }:=by
 obtain⟨m,⟨o,es,ep,ho,r⟩,_⟩:=id I.loc
 obtain⟨sl,hL⟩:=u.any ho I.free (by simp)
 exact I.step (g':=s.gens) (d':=s.drawn) (ch:=[]) (fun _ z=>nomatch z) (fun b o _ hb _ e n=>u.keep b o e n hb (by simp)) (fun b o _ hb _ e n=>u.slot b o e n hb (by simp)) (fun b o _ e n=>u.free b o e n (by simp)) (fun b o _ e=>u.there b o e (by simp)) u.tups u.frzs u.tbls (fun m' hm=>by
  obtain⟨o',es',ep',ho',r'⟩:=hm
  rw [ho] at ho';cases ho'
  exact⟨_,es',ep',hL,r'⟩) hok I.bare
theorem Inv.call {g':Array GenState} {t':Nat} {d':Drawn} {ch:List Addr} (I:Inv X pins σ H s) (u:Un (frs X.stack) ch H H' s.heap h') (hok:HOk X.prog X.w H' h') (hg:AllBare g')
  (hch:∀b ∈ ch,(b ∈ X.ex\/X.s₀.heap.objs.size<=b)/\b≠X.env.locals/\(∀x c,X.env.cells.lookup x=some c->c≠b)/\∀p ∈ X.pn++pins,p.1≠b):
  Inv X pins σ H' { s with heap:=h',gens:=g',drawn:=d',toks:=t' }:=by
 obtain⟨m,⟨o,es,ep,ho,r⟩,_⟩:=id I.loc
 obtain⟨sl,hL⟩:=u.any ho I.free fun z=>(hch _ z).2.1 rfl
 exact I.step (ch:=ch) hch (fun b o hL hb hc e n=>u.keep b o e n (fun z=>(List.mem_cons.mp (I.stkSub b z)).elim hL hb) hc) (fun b o _ _ hc e n=>u.any e n hc) (fun b o hc e n=>u.free b o e n hc) (fun b o hc e=>u.there b o e hc) u.tups u.frzs u.tbls (fun m' hm=>by
  obtain⟨o',es',ep',ho',r'⟩:=hm
  rw [ho] at ho';cases ho'
  exact⟨_,es',ep',hL,r'⟩) hok hg
theorem Inv.turned {t':Nat} {it:Addr} (I:Inv X pins σ H s) (k:∀b o,b≠it->s.heap.get? b=some o->h'.get? b=some o) (hn:H it=none) (hL:it≠X.env.locals)
  (h1:it ∈ X.ex\/X.s₀.heap.objs.size<=it) (h2:∀x c,X.env.cells.lookup x=some c->c≠it) (h3:∀p ∈ X.pn++pins,p.1≠it):Inv X pins σ H { s with heap:=h',toks:=t' }:=by
 have nit:∀b u,H b=some u->b≠it:=fun b u e z=>by rw [z,hn] at e;cases e
 refine I.step (g':=s.gens) (d':=s.drawn) (ch:=[it]) (fun b hb=>?_) (fun b o _ _ hc e _=>k b o (fun z=>hc (by simp [z])) e) (fun b o _ _ hc e _=>⟨o.slots,k b o (fun z=>hc (by simp [z])) e⟩) (fun _ _ _ _ n=>n)
  (fun b o hc e=>⟨o,k b o (fun z=>hc (by simp [z])) e⟩) (fun _ _ e=>e) (fun _ _ _ e=>e) (fun b ps e=>⟨#[],by rw [e];simp⟩) (fun m hm=>?_) (fun b u e=>?_) I.bare
 ·have e:b=it:=by simpa using hb
  subst e
  exact⟨h1,hL,h2,h3⟩
 ·obtain⟨o,es,ep,ho,r⟩:=hm
  exact⟨o,es,ep,k _ o (Ne.symm hL) ho,r⟩
 ·refine(I.hok b u e).stay (fun c v hc q=>k c v ?_ q) (fun _ q=>q) fun _ _ q=>q
  rcases hc with z|z
  ·rw [z];exact nit b u e
  ·exact nit c _ z
theorem Inv.tok (I:Inv X pins σ H s) (t:Nat):Inv X pins σ H { s with toks:=t }:=I.un (h':=s.heap) (t':=t) Un.refl I.hok
theorem Inv.kept {t':Nat} (I:Inv X pins σ H s) (k:∀b u,s.heap.get? b=some u->h'.get? b=some u):Inv X pins σ H { s with heap:=h',toks:=t' }:=I.un (Un.kept k) (I.hok.kept k)
theorem Inv.laid {a:Addr} {o:HO} {t':Nat} (I:Inv X pins σ H s) (k:∀b u,s.heap.get? b=some u->h'.get? b=some u) (hp:s.heap.objs.size<=a) (new:cL X.prog X.w (upd H a o) h' a o):
  Inv X pins σ (upd H a o) { s with heap:=h',toks:=t' }:=I.un (Un.laid k hp (I.hok.fresh hp)) (I.hok.laid k hp new)
theorem Inv.write {x e:Addr} {o:HO} {t':Nat} (I:Inv X pins σ H s) (mu:Mut (H x)) (he:e=x\/H e=some (.own x)) (k:∀b u,b≠e->s.heap.get? b=some u->h'.get? b=some u) (heo:∃u,h'.get? e=some u)
  (new:cL X.prog X.w (upd H x o) h' x o):Inv X pins σ (upd H x o) { s with heap:=h',toks:=t' }:=I.un (Un.write mu he k heo) (I.hok.write mu he k heo new)
theorem Inv.weak {σ':List (Option V)} (I:Inv X pins σ H s) (hl:σ'.length=σ.length) (w:∀(i:Nat) v,σ'[i]?=some (some v)->σ[i]?=some (some v)):Inv X pins σ' H s:=
 ⟨I.ok,I.os,I.bare,I.base,let ⟨m,hn,hl'⟩:=I.loc;⟨m,hn,fun i x v e1 e2 e3=>hl' i x v e1 (w i v e2) e3⟩,I.cell,I.free,I.freeC,I.pin,I.hok,hl.trans I.len⟩
theorem Inv.pins_of {pins':List (Addr × Obj)} (I:Inv X pins σ H s) (h:∀p ∈ pins',s.heap.get? p.1=some p.2/\H p.1=none/\p.1≠X.env.locals/\p.1 ∉ X.fs/\∀v,p.2.data≠.cell v):Inv X pins' σ H s:=
 ⟨I.ok,I.os,I.bare,I.base,I.loc,I.cell,I.free,I.freeC,fun p hp=>(List.mem_append.mp hp).elim (fun z=>I.pin p (List.mem_append_left _ z)) (h p),I.hok,I.len⟩
theorem qS {N:List Str} (hN:N.Nodup) {i j:Nat} {x:Str} (a:N[i]?=some x) (b:N[j]?=some x):i=j:=by
 obtain⟨h1,e1⟩:=List.getElem?_eq_some_iff.mp a
 obtain⟨h2,e2⟩:=List.getElem?_eq_some_iff.mp b
 exact(List.getElem_inj hN).mp (e1.trans e2.symm)
theorem sH {M:Model} {A:Around} {E:Value->Shared->Prop} {i:Nat} {x:Str} {v:V} {u:Value} {Q:Unit->Shared->Prop} (I:Inv X pins σ H s) (hN:X.N.Nodup) (hi:X.N[i]?=some x) (hx:Loc X.env.scope x) (r:cK v u)
  (h:∀s',Inv X pins (σ.set i (some v)) H s'->(∃a,Heap.SameBut a s.heap s'.heap/\(a=X.env.locals\/X.env.cells.lookup x=some a))->Q () s') (hf:X.fn x=true\/X.env.scope.names.lookup x=some .local:=by first|exact .inl rfl|exact .inr rfl|assumption):wpAny M A (storeName X.env x u) Q E s:=by
 obtain⟨m,hn,hl⟩:=id I.loc
 have hcls:(X.env.scope.kind == .class || (X.env.scope.kind == .module && X.env.locals != X.env.globals))=false:=by rw [I.ok.kind];rfl
 have hiσ:i<σ.length:=by rw [I.len];exact(List.getElem?_eq_some_iff.mp hi).1
 have cne:=I.cne
 have tracked:∀{a:Addr} {h':Heap},(∃o,s.heap.get? a=some o/\H a=none)->Heap.SameBut a s.heap h'->HOk X.prog X.w H h':=fun {a h'} ha hs b ob e=>by
  obtain⟨_,_,hfree⟩:=ha
  refine(I.hok b ob e).stay (fun c w' hc q=>(hs.2 c ?_).trans q) (fun _ q=>q) fun _ _ q=>q
  rintro rfl
  rcases hc with rfl|hc
  ·rw [hfree] at e;cases e
  ·rw [hfree] at hc;cases hc
 rcases hx with hk|hk
 ·refine wpAny_storeName_local hk hn (fun h' hn' hs=>?_) hcls
  obtain⟨oL,_,_,hoL,_⟩:=id hn
  refine h _ ⟨I.ok,I.os,I.bare,⟨fun b o e n hb hx=>?_,fun b o e n hb hx=>?_,I.base.free,fun b o e hx=>?_,I.base.tups,I.base.frzs,I.base.tbls⟩,⟨_,hn',fun j y v' e1 e2 e3=>?_⟩,fun y c e=>?_,I.free,I.freeC,fun p hp=>?_,tracked ⟨oL,hoL,I.free⟩ hs,by simpa using I.len⟩ ⟨_,hs,.inl rfl⟩
  ·exact(hs.2 b (Nat.ne_of_lt (Nat.lt_of_lt_of_le (Heap.lt_size e) I.ok.above))).trans (I.base.keep b o e n hb hx)
  ·obtain⟨sl,e1⟩:=I.base.slot b o e n hb hx
   exact⟨sl,(hs.2 b (Nat.ne_of_lt (Nat.lt_of_lt_of_le (Heap.lt_size e) I.ok.above))).trans e1⟩
  ·obtain⟨o',e1⟩:=I.base.there b o e hx
   exact⟨o',(hs.2 b (Nat.ne_of_lt (Nat.lt_of_lt_of_le (Heap.lt_size e) I.ok.above))).trans e1⟩
  ·by_cases hj:j=i
   ·subst hj
    rw [hi] at e1;cases e1
    rw [List.getElem?_set_self hiσ] at e2
    cases e2
    exact⟨u,r,.inl ⟨hk,by simp⟩⟩
   ·rw [List.getElem?_set_ne (Ne.symm hj)] at e2
    obtain⟨u',r',q⟩:=hl j y v' e1 e2 e3
    refine⟨u',r',?_⟩
    rcases q with ⟨k,e⟩|⟨k,c,e,z⟩
    ·refine .inl ⟨k,?_⟩
     have:y≠x:=fun e=>hj (qS hN e1 (e ▸ hi))
     simp [this,e]
    ·exact .inr ⟨k,c,e,z.sameBut hs (cne y c e)⟩
  ·obtain⟨w',z⟩:=I.cell y c e
   exact⟨w',z.sameBut hs (cne y c e)⟩
  ·obtain⟨e,n,ne,nf,d⟩:=I.pin p hp
   exact⟨(hs.2 p.1 ne).trans e,n,ne,nf,d⟩
 ·have hfn:X.fn x=true:=by
   rcases hf with z|z
   ·exact z
   ·rw [z] at hk;cases hk
  obtain⟨c,hc⟩:=I.ok.has x (.inl hk)
  obtain⟨w',z⟩:=I.cell x c hc
  refine wpAny_storeName_cell I.ok.kind hk hc z (fun h' hc' hs=>?_)
  obtain⟨oc,hoc,hocd⟩:=id z
  refine h { s with heap:=h' } ⟨I.ok,I.os,I.bare,⟨fun b o e n hb hx=>?_,fun b o e n hb hx=>?_,I.base.free,fun b o e hx=>?_,I.base.tups,I.base.frzs,I.base.tbls⟩,⟨m,hn.sameBut hs (Ne.symm (cne x c hc)),fun j y v' e1 e2 e3=>?_⟩,fun y c' e=>?_,I.free,I.freeC,fun p hp=>?_,tracked ⟨oc,hoc,I.freeC x c hc⟩ hs,by simpa using I.len⟩ ⟨c,hs,.inr hc⟩
  ·exact(hs.2 b (Nat.ne_of_lt (Nat.lt_of_lt_of_le (Heap.lt_size e) (I.ok.cab x c hfn hc)))).trans (I.base.keep b o e n hb hx)
  ·obtain⟨sl,e1⟩:=I.base.slot b o e n hb hx
   exact⟨sl,(hs.2 b (Nat.ne_of_lt (Nat.lt_of_lt_of_le (Heap.lt_size e) (I.ok.cab x c hfn hc)))).trans e1⟩
  ·obtain⟨o',e1⟩:=I.base.there b o e hx
   exact⟨o',(hs.2 b (Nat.ne_of_lt (Nat.lt_of_lt_of_le (Heap.lt_size e) (I.ok.cab x c hfn hc)))).trans e1⟩
  ·by_cases hj:j=i
   ·subst hj
    rw [hi] at e1;cases e1
    rw [List.getElem?_set_self hiσ] at e2
    cases e2
    exact⟨u,r,.inr ⟨.inl hk,c,hc,hc'⟩⟩
   ·rw [List.getElem?_set_ne (Ne.symm hj)] at e2
    obtain⟨u',r',q⟩:=hl j y v' e1 e2 e3
    refine⟨u',r',?_⟩
    rcases q with q|⟨k,c',e,z'⟩
    ·exact .inl q
    ·refine .inr ⟨k,c',e,z'.sameBut hs ?_⟩
     rintro rfl
     exact hj (qS hN e1 (I.ok.inj _ _ _ e hc ▸ hi))
  ·by_cases hcc:c'=c
   ·subst hcc;exact⟨_,hc'⟩
   ·obtain⟨w2,z2⟩:=I.cell y c' e
    exact⟨w2,z2.sameBut hs hcc⟩
  ·obtain⟨e,n,ne,nf,d⟩:=I.pin p hp
   refine⟨(hs.2 p.1 ?_).trans e,n,ne,nf,d⟩
   intro q
   rw [q,hoc] at e
   have q':oc=p.2:=Option.some.inj e
   exact d w' (by rw [<- q'];exact hocd)
theorem lD {M:Model} {A:Around} {E:Value->Shared->Prop} {i:Nat} {x:Str} {v:V} {u:Value} {Q:Unit->Shared->Prop} (I:Inv X pins σ H s) (hN:X.N.Nodup) (hi:X.N[i]?=some x) (hx:Loc X.env.scope x) (r:cK v u)
  (h:∀s',Inv X pins (σ.set i (some v)) H s'->Q () s') (hf:X.fn x=true\/X.env.scope.names.lookup x=some .local:=by first|exact .inl rfl|exact .inr rfl|assumption):wpAny M A (storeName X.env x u) Q E s:=
 sH I hN hi hx r (fun s' I' _=>h s' I') hf
theorem Inv.call' {s':Shared} {ch:List Addr} (I:Inv X pins σ H s) (ho:s'.os=s.os) (u:Un (frs X.stack) ch H H' s.heap s'.heap) (hok:HOk X.prog X.w H' s'.heap) (hg:AllBare s'.gens)
  (hch:∀b ∈ ch,(b ∈ X.ex\/X.s₀.heap.objs.size<=b)/\b≠X.env.locals/\(∀x c,X.env.cells.lookup x=some c->c≠b)/\∀p ∈ X.pn++pins,p.1≠b):Inv X pins σ H' s':=by
 obtain⟨h',g',d',t',o'⟩:=s'
 have e:o'=s.os:=ho
 subst e
 exact I.call (g':=g') (t':=t') (d':=d') u hok hg hch
end
abbrev XK:=Value->Option Addr->Hp->Prop
abbrev St:=List (Option V)
abbrev VK:=V->Hp->Prop
abbrev TE:=St->Hp->VK->Prop
abbrev TT:=St->Hp->(Bool->Hp->Prop)->Prop
abbrev TA:=St->Hp->(List V->Hp->Prop)->Prop
structure jI where
 nx:St->Hp->Prop
 rt:VK
 bk:St->Hp->Prop:=fun _ _=>False
 ct:St->Hp->Prop:=fun _ _=>False
abbrev TS:=jI->St->Hp->Prop
def EP (X:Cx) (pins:List (Addr × Obj)) (σ:St) (Q:VK) (u:Value) (s':Shared):Prop:=∃v H',Inv X pins σ H' s'/\cK v u/\Q v H'
def TP (X:Cx) (pins:List (Addr × Obj)) (σ:St) (Q:Bool->Hp->Prop) (b:Bool) (s':Shared):Prop:=∃H',Inv X pins σ H' s'/\Q b H'
def AP (X:Cx) (pins:List (Addr × Obj)) (σ:St) (Q:List V->Hp->Prop) (us:List Value) (s':Shared):Prop:=∃vs H',Inv X pins σ H' s'/\cE vs us/\Q vs H'
def SP (X:Cx) (pins:List (Addr × Obj)) (D:jI) (f:Flow) (s':Shared):Prop:=
 match f with
 | .next=>∃ σ' H',Inv X pins σ' H' s'/\D.nx σ' H'
 | .brk=>∃ σ' H',Inv X pins σ' H' s'/\D.bk σ' H'
 | .cont=>∃ σ' H',Inv X pins σ' H' s'/\D.ct σ' H'
 | .ret u=>∃v σ' H',Inv X pins σ' H' s'/\cK v u/\D.rt v H'
def PE (X:Cx) (e:Expr) (t:TE):Prop:=
 ∀ ⦃pins:List (Addr × Obj)⦄ (s:Shared) (σ:St) (H:Hp) (Q:VK),Inv X pins σ H s->t σ H Q->wpAny (model X.prog X.w) X.A (eval e X.env) (EP X pins σ Q) X.xe s
def PT (X:Cx) (e:Expr) (t:TT):Prop:=
 ∀ ⦃pins:List (Addr × Obj)⦄ (s:Shared) (σ:St) (H:Hp) (Q:Bool->Hp->Prop),Inv X pins σ H s->t σ H Q->wpAny (model X.prog X.w) X.A (isTrue e X.env (eval e X.env)) (TP X pins σ Q) X.xe s
def PW (X:Cx) (e:Expr) (t:TT):Prop:=
 ∀ ⦃whole:Sem Value⦄ (pins:List (Addr × Obj)) (s:Shared) (σ:St) (H:Hp) (Q:Bool->Hp->Prop),Inv X pins σ H s->t σ H Q->wpAny (model X.prog X.w) X.A (isTrue e X.env whole) (TP X pins σ Q) X.xe s
theorem PW.pt {X:Cx} {e:Expr} {t:TT} (h:PW X e t):PT X e t:=@h _
def PA (X:Cx) (es:List Expr) (t:TA):Prop:=
 ∀ ⦃pos:Pos⦄ (pins:List (Addr × Obj)) (s:Shared) (σ:St) (H:Hp) (Q:List V->Hp->Prop),Inv X pins σ H s->t σ H Q->wpAny (model X.prog X.w) X.A (spliced (backTo pos (starEach es X.env))) (AP X pins σ Q) X.xe s
def PS (X:Cx) (st:Stmt) (t:TS):Prop:=
 ∀ ⦃pins:List (Addr × Obj)⦄ (s:Shared) (σ:St) (H:Hp) (D:jI),Inv X pins σ H s->t D σ H->wpAny (model X.prog X.w) X.A (exec st X.env) (SP X pins D) X.xe s
def PSs (X:Cx) (st:List Stmt) (t:TS):Prop:=
 ∀ ⦃pins:List (Addr × Obj)⦄ (s:Shared) (σ:St) (H:Hp) (D:jI),Inv X pins σ H s->t D σ H->wpAny (model X.prog X.w) X.A (execs st X.env) (SP X pins D) X.xe s
theorem thn {α:Type} {t:Sem α} {Q Q':α->Shared->Prop} {M:Model} {A:Around} {E:Value->Shared->Prop} {s:Shared} (h:wpAny M A t Q E s) (hQ:∀a s,Q a s->Q' a s):wpAny M A t Q' E s:=wpAny_mono h hQ fun _ _ x=>x
section
variable {X:Cx}
def iE (i:Nat):TE:=fun σ H Q=>∃v,σ[i]?=some (some v)/\Q v H
def tC (v:V):TE:=fun _ H Q=>Q v H
theorem pe_var {i:Nat} {x:Str} {pos:Pos} (hN:X.N[i]?=some x) (hv:Vis X.env.scope x) (hd:(x == ("__debug__":Str))=false:=by decide) (hcd:(x == ("__classdict__":Str))=false:=by decide):PE X (.Name x pos) (iE i):=by
 intro pins s σ H Q I h
 obtain⟨v,e,h⟩:=h
 obtain⟨m,hn,hl⟩:=I.loc
 obtain⟨u,r,l⟩:=hl i x v hN e hv
 have fin:EP X pins σ Q u s:=⟨v,H,I,r,h⟩
 rcases l with ⟨hk,hm⟩|⟨hk,c,hc,hcell⟩
 ·exact wpAny_Name (wpAny_loadName_local I.ok.kind hk hn hm fin) hd
 ·rcases hk with hk|hk
  ·exact wpAny_Name (wpAny_loadName_cell I.ok.kind hk hc hcell fin) hd
  ·exact wpAny_Name (wpAny_loadName_free I.ok.kind hk hc hcell fin hcd) hd
theorem aE {i j pos}:PE X (.Constant (.int i) j pos) (tC (.int i)):=fun _ _ _ H _ I h=>wpAny_Constant_int ⟨.int i,H,I.tok _,⟨_,rfl⟩,h⟩
theorem lR {b j pos}:PE X (.Constant (.bool b) j pos) (tC (.bl b)):=fun _ _ _ H _ I h=>Constant_bool ⟨.bl b,H,I,rfl,h⟩
theorem dX {j pos}:PE X (.Constant .none j pos) (tC .non):=fun _ _ _ H _ I h=>Constant_none ⟨.non,H,I,rfl,h⟩
theorem aZ {x j pos}:PE X (.Constant (.str x) j pos) (tC (.str x)):=fun _ _ _ H _ I h=>Calls.Constant_str ⟨.str x,H,I.tok _,⟨_,rfl⟩,h⟩
def Gl (X:Cx) (x:Str):Prop:=X.env.kindOf x=some .globalImplicit
theorem gP {E:Value->Shared->Prop} {pins:List (Addr × Obj)} {s:Shared} {σ:St} {H:Hp} {x:Str} {u:Value} {pos:Pos} {Q:Value->Shared->Prop} (I:Inv X pins σ H s) (hg:Gl X x) (hm:X.mg x=some u) (h:Q u s)
  (hd:(x == ("__debug__":Str))=false:=by decide):wpAny (model X.prog X.w) X.A (eval (.Name x pos) X.env) Q E s:=
 Calls.Name_function_global I.ok.kind hg (Calls.loadGlobal_global (by rw [I.ok.glob];exact I.mod.glob.keeps I.bk) hm h) hd
theorem iN {E:Value->Shared->Prop} {pins:List (Addr × Obj)} {s:Shared} {σ:St} {H:Hp} {x:Str} {u:Value} {pos:Pos} {Q:Value->Shared->Prop} (I:Inv X pins σ H s) (hg:Gl X x) (hm:X.mg x=none) (hv:bootBuiltins x=some u) (h:Q u s)
  (hn:x≠"__name__":=by decide) (hd:(x == ("__debug__":Str))=false:=by decide):wpAny (model X.prog X.w) X.A (eval (.Name x pos) X.env) Q E s:=by
 obtain⟨mb,h1,h2⟩:=I.mod.blt
 exact Calls.Name_function_global I.ok.kind hg (Calls.loadGlobal_builtin (by rw [I.ok.glob];exact I.mod.glob.keeps I.bk) hm (by rw [I.ok.blt];exact h1.keeps I.bk) ((h2 x hn).trans hv) h) hd
theorem dC {x:Str} {v:V} {u:Value} {pos:Pos} (hg:Gl X x) (hm:X.mg x=some u) (r:cK v u) (hd:(x == ("__debug__":Str))=false:=by decide):PE X (.Name x pos) (tC v):=
 fun _ _ _ H _ I h=>gP I hg hm ⟨v,H,I,r,h⟩ hd
theorem gC {x:Str} {v:V} {u:Value} {pos:Pos} (hg:Gl X x) (hm:X.mg x=none) (hv:bootBuiltins x=some u) (r:cK v u) (hn:x≠"__name__":=by decide) (hd:(x == ("__debug__":Str))=false:=by decide):PE X (.Name x pos) (tC v):=
 fun _ _ _ H _ I h=>iN I hg hm hv ⟨v,H,I,r,h⟩ hn hd
variable {a b:Expr} {ta tb:TE} {pos:Pos}
def PC (X:Cx) (op:CmpOp) (a b:Expr) (t:TE):Prop:=
 ∀ ⦃pins:List (Addr × Obj)⦄ (s:Shared) (σ:St) (H:Hp) (Q:VK),Inv X pins σ H s->t σ H Q ->
  wpAny (model X.prog X.w) X.A (eval a X.env) (fun v s₁=>wpAny (model X.prog X.w) X.A (eval b X.env) (fun u s₂=>wpAny (model X.prog X.w) X.A (compareOp op v u) (EP X pins σ Q) X.xe s₂) X.xe s₁) X.xe s
def tB (t:TE):TT:=fun σ H Q=>t σ H fun x H1=>∃c,x=.bl c/\Q c H1
theorem AeR {op:CmpOp} {t:TE} (h:PC X op a b t) (h1:behindInMarks op b=false:=by first|exact nobehind _ (by decide) (by decide)|rfl):PT X (.Compare a [op] [b] pos) (tB t):=by
 intro pins s σ H Q I hw
 refine wpAny_isTrue_Compare1 (thn (h s σ H _ I hw) fun v s1 h1=>thn h1 fun u s2 h2=>thn h2 fun c s3 ⟨x,H1,I1,r1,q1⟩=>?_) h1
 obtain⟨d,rfl,q⟩:=q1
 cases r1
 exact wpAny_truthy_bool ⟨H1,I1,q⟩
theorem cW {e:Expr} {t:TE} (h:PE X e t) (he:∀whole,isTrue e X.env whole=(do let v <- whole;standAt e.pos;holding [v] (truthy v)):=by intro _;rfl):PT X e (tB t):=by
 intro pins s σ H Q I hw
 refine isTrue_plain (thn (h s σ H _ I hw) fun v s1 ⟨x,H1,I1,r1,q1⟩=>?_) (he _)
 obtain⟨d,rfl,q⟩:=q1
 cases r1
 exact wpAny_truthy_bool ⟨H1,I1,q⟩
variable {tA tB':TT} {rest:List Expr}
def tAnd (t u:TT):TT:=fun σ H Q=>t σ H fun c H1=>if c=true then u σ H1 Q else Q false H1
def tOr (t u:TT):TT:=fun σ H Q=>t σ H fun c H1=>if c=true then Q true H1 else u σ H1 Q
def tNot (t:TT):TT:=fun σ H Q=>t σ H fun c H1=>Q (!c) H1
theorem iI (ha:PT X a tA):PW X (.BoolOp .And [a] pos) tA:=by
 intro wh pins s σ H Q I h
 refine isTrue_and (thn (ha s σ H Q I h) fun c s1 e=>?_)
 cases c with
 | true=>exact isTrue_and_nil e
 | false=>exact e
theorem eT (ha:PT X a tA):PW X (.BoolOp .Or [a] pos) tA:=by
 intro wh pins s σ H Q I h
 refine isTrue_or (thn (ha s σ H Q I h) fun c s1 e=>?_)
 cases c with
 | false=>exact isTrue_or_nil e
 | true=>exact e
theorem kR (ha:PT X a tA) (hb:PW X (.BoolOp .And (b::rest) pos) tB'):PW X (.BoolOp .And (a::b::rest) pos) (tAnd tA tB'):=by
 intro wh pins s σ H Q I h
 refine isTrue_and (thn (ha s σ H _ I h) fun c s1 ⟨H1,I1,q1⟩=>?_)
 cases c with
 | true=>exact hb pins s1 σ H1 Q I1 q1
 | false=>exact⟨H1,I1,q1⟩
theorem gH (ha:PT X a tA) (hb:PW X (.BoolOp .Or (b::rest) pos) tB'):PW X (.BoolOp .Or (a::b::rest) pos) (tOr tA tB'):=by
 intro wh pins s σ H Q I h
 refine isTrue_or (thn (ha s σ H _ I h) fun c s1 ⟨H1,I1,q1⟩=>?_)
 cases c with
 | true=>exact⟨H1,I1,q1⟩
 | false=>exact hb pins s1 σ H1 Q I1 q1
theorem dA (ha:PT X a tA):PT X (.UnaryOp .Not a pos) (tNot tA):=by
 intro pins s σ H Q I h
 exact isTrue_not (ha s σ H (fun c H1=>Q (!c) H1) I h)
def tAndV (ta tb:TE):TE:=fun σ H Q=>ta σ H fun x H1=>∃c,x=.bl c/\if c=true then tb σ H1 Q else Q (.bl false) H1
def tOrV (ta tb:TE):TE:=fun σ H Q=>ta σ H fun x H1=>∃c,x=.bl c/\if c=true then Q (.bl true) H1 else tb σ H1 Q
def tNotV (ta:TE):TE:=fun σ H Q=>ta σ H fun x H1=>∃c,x=.bl c/\Q (.bl (!c)) H1
theorem iJ {op} {t:TE} (h:PE X a t):PE X (.BoolOp op [a] pos) t:=fun pins s σ H Q I hw=>BoolOp_one (h s σ H Q I hw)
theorem iK (ha:PE X a ta) (hb:PE X (.BoolOp .And (b::rest) pos) tb):PE X (.BoolOp .And (a::b::rest) pos) (tAndV ta tb):=by
 intro pins s σ H Q I h
 refine BoolOp_and (thn (ha s σ H _ I h) fun v s1 ⟨x,H1,I1,r1,q1⟩=>?_)
 obtain⟨c,rfl,q1⟩:=q1
 cases r1
 refine wpAny_truthy_bool ?_
 cases c with
 | true=>exact hb s1 σ H1 Q I1 q1
 | false=>exact⟨.bl false,H1,I1,rfl,q1⟩
theorem pe_or (ha:PE X a ta) (hb:PE X (.BoolOp .Or (b::rest) pos) tb):PE X (.BoolOp .Or (a::b::rest) pos) (tOrV ta tb):=by
 intro pins s σ H Q I h
 refine BoolOp_or (thn (ha s σ H _ I h) fun v s1 ⟨x,H1,I1,r1,q1⟩=>?_)
 obtain⟨c,rfl,q1⟩:=q1
 cases r1
 refine wpAny_truthy_bool ?_
 cases c with
 | false=>exact hb s1 σ H1 Q I1 q1
 | true=>exact⟨.bl true,H1,I1,rfl,q1⟩
theorem uR (ha:PE X a ta):PE X (.UnaryOp .Not a pos) (tNotV ta):=by
 intro pins s σ H Q I h
 refine UnaryOp_ (thn (ha s σ H _ I h) fun v s1 ⟨x,H1,I1,r1,q1⟩=>?_)
 obtain⟨c,rfl,q1⟩:=q1
 cases r1
 exact not_of (wpAny_truthy_bool ⟨.bl (!c),H1,I1,rfl,q1⟩)
end
def SqL (K:PySem.W.Frag) (H:Hp) (a:Addr) (xs:List V):Prop:=
 Rd H a (.lst xs) \/
  ∃(o:Obj) (its:Array Value) (n:Nat),K.lookup a=some o/\o.cls=.type "list"/\o.dict=none/\o.data=.seq its n/\its.size<=sizeLine/\cE xs its.toList
def SqT (K:PySem.W.Frag) (H:Hp) (a:Addr) (xs:List V):Prop:=
 Rd H a (.tup xs) \/
  ∃(o:Obj) (its:Array Value) (n:Nat),K.lookup a=some o/\o.cls=.type "tuple"/\o.data=.seq its n/\its.size<=sizeLine/\cE xs its.toList
def absV:Value->Option V
 | .none=>some .non
 | .bool b=>some (.bl b)
 | .int i _=>some (.int i)
 | .str x _=>some (.str x)
 | .bytes b _=>some (.byt b)
 | .float b _=>some (.flt b)
 | .ref a=>some (.ref a)
 | .type n=>some (.ty n)
 | _=>none
theorem cK.abs {x:V} {u:Value} (r:cK x u):absV u=some x:=by
 cases x with
 | non=>cases r;rfl
 | bl _=>cases r;rfl
 | int _=>obtain⟨t,rfl⟩:=r;rfl
 | str _=>obtain⟨t,rfl⟩:=r;rfl
 | byt _=>obtain⟨t,rfl⟩:=r;rfl
 | flt _=>obtain⟨t,rfl⟩:=r;rfl
 | ref _=>cases r;rfl
 | ty _=>cases r;rfl
theorem cK.inj {x y:V} {u:Value} (r:cK x u) (q:cK y u):x=y:=Option.some.inj (r.abs.symm.trans q.abs)
theorem cE.inj:∀{xs ys:List V} {us:List Value},cE xs us->cE ys us->xs=ys
 | _,_,_,.nil,.nil=>rfl
 | _,_,_,.cons r t,.cons r' t'=>by rw [r.inj r',cE.inj t t']
section
variable {X:Cx} {pins:List (Addr × Obj)} {σ:St} {H:Hp} {s:Shared} {a:Addr} {xs ys:List V}
theorem SqL.of {K:PySem.W.Frag} (h:H a=some (.lst xs)):SqL K H a xs:=.inl (.inl h)
theorem SqT.of {K:PySem.W.Frag} (h:H a=some (.tup xs)):SqT K H a xs:=.inl (.inl h)
theorem Inv.list (I:Inv X pins σ H s) (h:SqL X.K H a xs):∃its:List Value,cE xs its/\PlainL s.heap a its.toArray/\xs.length<=sizeLine:=by
 rcases h with h|⟨o,its,n,hk,hc,hd,hs,hz,r⟩
 ·obtain⟨z,its,n,r,e⟩:=h.ok I.hok
  exact⟨its,r,⟨_,n,e,rfl,rfl,rfl⟩,z⟩
 ·refine⟨its.toList,r,⟨o,n,I.kIn a o hk,hc,hd,by simpa using hs⟩,?_⟩
  have e:=r.length
  simp only [Array.length_toList] at e
  omega
theorem Inv.tuple (I:Inv X pins σ H s) (h:SqT X.K H a xs):∃its:List Value,cE xs its/\IsTup s.heap a its.toArray/\xs.length<=sizeLine:=by
 rcases h with h|⟨o,its,n,hk,hc,hs,hz,r⟩
 ·obtain⟨z,its,r,p⟩:=h.ok I.hok
  exact⟨its,r,p,z⟩
 ·refine⟨its.toList,r,⟨o,I.kIn a o hk,hc,n,by simpa using hs⟩,?_⟩
  have e:=r.length
  simp only [Array.length_toList] at e
  omega
theorem Inv.list_inj (I:Inv X pins σ H s) (h:SqL X.K H a xs) (h':SqL X.K H a ys):xs=ys:=by
 obtain⟨its,r,⟨o,n,e,_,_,d⟩,_⟩:=I.list h
 obtain⟨its',r',⟨o',n',e',_,_,d'⟩,_⟩:=I.list h'
 rw [e] at e';cases e'
 rw [d] at d'
 injection d' with d1 _
 have:its=its':=by simpa using congrArg Array.toList d1
 subst this
 exact r.inj r'
theorem Inv.tuple_inj (I:Inv X pins σ H s) (h:SqT X.K H a xs) (h':SqT X.K H a ys):xs=ys:=by
 obtain⟨its,r,⟨o,e,_,n,d⟩,_⟩:=I.tuple h
 obtain⟨its',r',⟨o',e',_,n',d'⟩,_⟩:=I.tuple h'
 rw [e] at e';cases e'
 rw [d] at d'
 injection d' with d1 _
 have:its=its':=by simpa using congrArg Array.toList d1
 subst this
 exact r.inj r'
end
abbrev Cx.wish (X:Cx) (E:Value->Shared->Prop):Cx:={ X with xe:=E }
abbrev Cx.nox (X:Cx):Cx:=X.wish fun _ _=>False
theorem Cx.Ok.wish {X:Cx} (ok:X.Ok) (E:Value->Shared->Prop):(X.wish E).Ok:=
 ⟨ok.mod,ok.kind,ok.glob,ok.blt,ok.above,ok.inj,ok.has,ok.cab,ok.hd,ok.frames,ok.stk,ok.exf,ok.bs,ok.bsz,ok.noex,ok.exfs,ok.funs,ok.frf⟩
theorem Cx.Ok.unwish {X:Cx} {E:Value->Shared->Prop} (ok:(X.wish E).Ok):X.Ok:=
 ⟨ok.mod,ok.kind,ok.glob,ok.blt,ok.above,ok.inj,ok.has,ok.cab,ok.hd,ok.frames,ok.stk,ok.exf,ok.bs,ok.bsz,ok.noex,ok.exfs,ok.funs,ok.frf⟩
section
variable {X:Cx} {pins:List (Addr × Obj)} {σ:St} {H:Hp} {s:Shared} {E:Value->Shared->Prop}
theorem Inv.wish (I:Inv X pins σ H s) (E:Value->Shared->Prop):Inv (X.wish E) pins σ H s:=⟨I.ok.wish E,I.os,I.bare,I.base,I.loc,I.cell,I.free,I.freeC,I.pin,I.hok,I.len⟩
theorem Inv.unwish (I:Inv (X.wish E) pins σ H s):Inv X pins σ H s:=⟨I.ok.unwish,I.os,I.bare,I.base,I.loc,I.cell,I.free,I.freeC,I.pin,I.hok,I.len⟩
theorem SP.unwish {D:jI} {f:Flow} {s':Shared} (h:SP (X.wish E) pins D f s'):SP X pins D f s':=by
 cases f with
 | next=>obtain⟨σ',H',I,q⟩:=h;exact⟨σ',H',I.unwish,q⟩
 | brk=>obtain⟨σ',H',I,q⟩:=h;exact⟨σ',H',I.unwish,q⟩
 | cont=>obtain⟨σ',H',I,q⟩:=h;exact⟨σ',H',I.unwish,q⟩
 | ret u=>obtain⟨v,σ',H',I,r,q⟩:=h;exact⟨v,σ',H',I.unwish,r,q⟩
theorem PE.nox {e:Expr} {t:TE} (h:PE X.nox e t):PE X e t:=fun pins s σ H Q I hw=>
 wpAny_mono (h s σ H Q (I.wish _) hw) (fun _ _ ⟨v,H',I',r,q⟩=>⟨v,H',I'.unwish,r,q⟩) fun _ _ z=>False.elim z
theorem PSs.nox {st:List Stmt} {t:TS} (h:PSs X.nox st t):PSs X st t:=fun pins s σ H D I hw=>
 wpAny_mono (h s σ H D (I.wish _) hw) (fun _ _ q=>q.unwish) fun _ _ z=>False.elim z
end
section
variable {X:Cx} {st:Stmt} {rest:List Stmt} {t u:TS} {e:Expr} {te:TE} {pos:Pos}
def AaF:TS:=fun D σ H=>D.nx σ H
def tSeq (t u:TS):TS:=fun D σ H=>t { D with nx:=u D } σ H
theorem bV:PSs X [] AaF:=fun _ _ σ H _ I h=>wpAny_execs_nil ⟨σ,H,I,h⟩
theorem aC (h1:PS X st t) (h2:PSs X rest u):PSs X (st::rest) (tSeq t u):=by
 intro pins s σ H D I h
 refine wpAny_execs_cons (thn (h1 s σ H { D with nx:=u D } I h) fun f s1 q=>?_)
 cases f with
 | next=>
  obtain⟨σ',H',I',q⟩:=q
  exact h2 s1 σ' H' D I' q
 | ret v=>exact q
 | brk=>exact q
 | cont=>exact q
theorem aI (h1:PS X st t):PSs X [st] t:=by
 intro pins s σ H D I h
 refine wpAny_execs_cons (thn (h1 s σ H D I h) fun f s1 q=>?_)
 cases f with
 | next=>exact wpAny_execs_nil q
 | ret v=>exact q
 | brk=>exact q
 | cont=>exact q
theorem Inv.quiet {pins:List (Addr × Obj)} {σ:St} {H:Hp} {s:Shared} (I:Inv X pins σ H s):interactive X.env=false:=by simp [interactive,I.ok.kind]
def tDrop (te:TE):TS:=fun D σ H=>te σ H fun _ H1=>D.nx σ H1
theorem cT (he:PE X e te) (hs:swapsWith e none pos.line X.env=pure false:=by rfl):PS X (.Expr e pos) (tDrop te):=by
 intro pins s σ H D I h
 exact wpAny_Expr_any (thn (he s σ H _ I h) fun v s1 ⟨x,H1,I1,r1,q1⟩=>⟨σ,H1,I1,q1⟩) I.quiet hs
def tRet (te:TE):TS:=fun D σ H=>te σ H D.rt
theorem aY (he:PE X e te):PS X (.Return (some e) pos) (tRet te):=by
 intro pins s σ H D I h
 exact wpAny_Return_some (thn (he s σ H _ I h) fun v s1 ⟨x,H1,I1,r1,q1⟩=>⟨x,σ,H1,I1,r1,q1⟩)
def tIfS (c:TT) (t u:TS):TS:=fun D σ H=>c σ H fun b H1=>if b=true then t D σ H1 else u D σ H1
theorem cJ {c:Expr} {a b:List Stmt} {tc:TT} (hc:PT X c tc) (ha:PSs X a t) (hb:PSs X b u):PS X (.If c a b pos) (tIfS tc t u):=by
 intro pins s σ H D I h
 refine wpAny_If (thn (hc s σ H _ I h) fun d s1 ⟨H1,I1,q1⟩=>?_)
 cases d with
 | true=>exact ha s1 σ H1 D I1 q1
 | false=>exact hb s1 σ H1 D I1 q1
def AdY:TS:=fun _ _ _=>False
theorem qJ:PS X st AdY:=fun _ _ _ _ _ _ h=>h.elim
theorem cD {sts:List Stmt}:PSs X sts AdY:=fun _ _ _ _ _ _ h=>h.elim
end
abbrev TG:=V->St->Hp->(St->Hp->Prop)->Prop
abbrev TGs:=List V->St->Hp->(St->Hp->Prop)->Prop
def PG (X:Cx) (target:Expr) (t:TG):Prop:=
 ∀ ⦃pins:List (Addr × Obj)⦄ (s:Shared) (σ:St) (H:Hp) (v:V) (u:Value) (Q:St->Hp->Prop),Inv X pins σ H s->cK v u->t v σ H Q ->
  wpAny (model X.prog X.w) X.A (assign target X.env u) (fun _ s'=>∃ σ' H',Inv X pins σ' H' s'/\Q σ' H') X.xe s
def PGs (X:Cx) (ts:List Expr) (t:TGs):Prop:=
 ∀ ⦃pins:List (Addr × Obj)⦄ (s:Shared) (σ:St) (H:Hp) (vs:List V) (us:List Value) (Q:St->Hp->Prop),Inv X pins σ H s->cE vs us->t vs σ H Q ->
  wpAny (model X.prog X.w) X.A (assignInOrder ((assignEach ts X.env).map (·.2)) us) (fun _ s'=>∃ σ' H',Inv X pins σ' H' s'/\Q σ' H') X.xe s
abbrev TSet:=V->V->V->Hp->(Hp->Prop)->Prop
def PSet (X:Cx) (t:TSet):Prop:=
 ∀(pins:List (Addr × Obj)) (s:Shared) (σ:St) (H:Hp) (o i v:V) (ov iv u:Value) (Q:Hp->Prop),Inv X pins σ H s->cK o ov->cK i iv->cK v u->t o i v H Q ->
  wpAny (model X.prog X.w) X.A (setItem ov iv u) (fun _ s'=>∃H',Inv X pins σ H' s'/\Q H') X.xe s
abbrev TIp:=V->V->Hp->VK->Prop
def PIp (X:Cx) (op:Operator) (t:TIp):Prop:=
 ∀(pins:List (Addr × Obj)) (s:Shared) (σ:St) (H:Hp) (x y:V) (v u:Value) (Q:VK),Inv X pins σ H s->cK x v->cK y u->t x y H Q ->
  wpAny (model X.prog X.w) X.A (inplaceOp op v u) (EP X pins σ Q) X.xe s
section
variable {X:Cx} {pos:Pos}
def dQ (i:Nat):TG:=fun v σ H Q=>Q (σ.set i (some v)) H
theorem cG {i:Nat} {x:Str} (hN:X.N.Nodup) (hi:X.N[i]?=some x) (hx:Loc X.env.scope x) (hf:X.fn x=true\/X.env.scope.names.lookup x=some .local:=by first|exact .inl rfl|exact .inr rfl|assumption):PG X (.Name x pos) (dQ i):=by
 intro pins s σ H v u Q I r h
 exact wpAny_assign_Name (lD I hN hi hx r (fun s' I'=>⟨_,H,I',h⟩) hf)
def gNil:TGs:=fun vs σ H Q=>vs=[]/\Q σ H
def lU (t:TG) (u:TGs):TGs:=fun vs σ H Q=>∃v r,vs=v::r/\t v σ H fun σ' H'=>u r σ' H' Q
theorem gB:PGs X [] gNil:=by
 intro pins s σ H vs us Q I r h
 obtain⟨e,h⟩:=h
 subst e
 cases r
 exact assignInOrder_nil ⟨σ,H,I,h⟩
theorem cX {e:Expr} {es:List Expr} {t:TG} {u:TGs} (h1:PG X e t) (h2:PGs X es u)
  (hs:(assignEach (e::es) X.env).map (·.2)=assign e X.env::(assignEach es X.env).map (·.2):=by rfl):PGs X (e::es) (lU t u):=by
 intro pins s σ H vs us Q I r h
 obtain⟨v,vr,e1,h⟩:=h
 subst e1
 cases r with
 | cons r rr=>
  rw [hs]
  refine assignInOrder_cons (thn (h1 s σ H _ _ _ I r h) fun _ s1 ⟨σ1,H1,I1,q1⟩=>?_)
  exact h2 s1 σ1 H1 _ _ Q I1 rr q1
def gTup (K:PySem.W.Frag) (n:Nat) (t:TGs):TG:=fun v σ H Q=>∃a xs,v=.ref a/\SqT K H a xs/\xs.length=n/\t xs σ H Q
theorem jD {es:List Expr} {k:Nat} {t:TGs} {n:Nat} (hc:X.calm=true) (h:PGs X es t)
  (hn:(assignEach es X.env).length=n:=by rfl) (hst:(assignEach es X.env).findIdx? (·.1)=none:=by rfl):PG X (.Tuple es k pos) (gTup X.K n t):=by
 intro pins s σ H v u Q I r hw
 obtain⟨a,xs,e1,hq,hl,hw⟩:=hw
 subst e1
 cases r
 obtain⟨its,rv,ht,hz⟩:=I.tuple hq
 refine assign_Tuple_tuple (I.ok.hd hc) ht (by simp [hn,<- hl,rv.length]) hst fun h' hx=>?_
 have I1:Inv X pins σ H { s with heap:=h' }:=I.kept (t':=s.toks) fun b o e=>hx b o (Nat.ne_of_lt (Heap.lt_size e)) e
 exact h _ σ H xs _ Q I1 (by simpa using rv) hw
def gSub (to ti:TE) (t:TSet):TG:=fun v σ H Q=>to σ H fun o H1=>ti σ H1 fun i H2=>t o i v H2 fun H3=>Q σ H3
theorem zA {o i:Expr} {to ti:TE} {t:TSet} (ho:PE X o to) (hi:PE X i ti) (hs:PSet X t)
  (ha:∀v,assign (.Subscript o i pos) X.env v=(do
   let ov <- holding [v] (eval o X.env)
   let iv <- holding [v,ov] (eval i X.env)
   standAt pos
   holding [v,ov,iv] (setItem ov iv v)
   release [v,ov,iv] []):=by intro _;rfl):PG X (.Subscript o i pos) (gSub to ti t):=by
 intro pins s σ H v u Q I r h
 rw [ha]
 refine wpAny_bind (wpAny_holding (thn (ho s σ H _ I h) fun ov s1 ⟨x,H1,I1,r1,q1⟩=>?_))
 refine wpAny_bind (wpAny_holding (thn (hi s1 σ H1 _ I1 q1) fun iv s2 ⟨y,H2,I2,r2,q2⟩=>?_))
 refine wpAny_bind (wpAny_standAt (wpAny_bind (wpAny_holding (thn (hs pins s2 σ H2 x y v ov iv u _ I2 r1 r2 r q2) fun _ s3 ⟨H3,I3,q3⟩=>?_))))
 exact wpAny_release ⟨σ,H3,I3,q3⟩
def tAsg (te:TE) (g:TG):TS:=fun D σ H=>te σ H fun x H1=>g x σ H1 D.nx
theorem yY {tg e:Expr} {te:TE} {g:TG} (he:PE X e te) (hg:PG X tg g) (hs:swapsWithSole [tg] e pos.line X.env=pure false:=by rfl) (hw:swappedStores [tg] e X.env=pure none:=by rfl)
  (h1:(assignEach [tg] X.env).map (·.2)=[assign tg X.env]:=by rfl):PS X (.Assign [tg] e pos) (tAsg te g):=by
 intro pins s σ H D I h
 refine wpAny_Assign_stores (thn (he s σ H _ I h) fun v s1 ⟨x,H1,I1,r1,q1⟩=>?_) hs hw
 rw [h1]
 exact thn (hg s1 σ H1 x v _ I1 r1 q1) fun _ s2 q=>q
theorem aU {i:Nat} {x:Str} {e:Expr} {te:TE} {pos':Pos} (hN:X.N.Nodup) (hi:X.N[i]?=some x) (hx:Loc X.env.scope x) (he:PE X e te) (hs:swapsWith e (some (.Name x pos')) pos.line X.env=pure false:=by rfl) (hf:X.fn x=true\/X.env.scope.names.lookup x=some .local:=by first|exact .inl rfl|exact .inr rfl|assumption):
  PS X (.Assign [.Name x pos'] e pos) (tAsg te (dQ i)):=by
 intro pins s σ H D I h
 refine wpAny_Assign_Name (thn (he s σ H _ I h) fun v s1 ⟨y,H1,I1,r1,q1⟩=>?_) hs
 exact lD I1 hN hi hx r1 (fun s2 I2=>⟨_,H1,I2,q1⟩) hf
def tAug (i:Nat) (te:TE) (ti:TIp):TS:=fun D σ H=>∃x,σ[i]?=some (some x)/\te σ H fun y H1=>ti x y H1 fun z H2=>D.nx (σ.set i (some z)) H2
theorem AeT {i:Nat} {x:Str} {e:Expr} {te:TE} {op:Operator} {ti:TIp} {pos':Pos} (hN:X.N.Nodup) (hi:X.N[i]?=some x) (hx:Loc X.env.scope x) (he:PE X e te) (ho:PIp X op ti) (hf:X.fn x=true\/X.env.scope.names.lookup x=some .local:=by first|exact .inl rfl|exact .inr rfl|assumption):
  PS X (.AugAssign (.Name x pos') op e pos) (tAug i te ti):=by
 intro pins s σ H D I h
 obtain⟨v,e1,h⟩:=h
 obtain⟨m,hn,hl⟩:=I.loc
 have vis:Vis X.env.scope x:=by rcases hx with k|k;exact .inl k;exact .inr (.inl k)
 obtain⟨u,r,l⟩:=hl i x v hi e1 vis
 refine wpAny_AugAssign_Name ?_
 have go:wpAny (model X.prog X.w) X.A (eval e X.env) (fun w s₂=>wpAny (model X.prog X.w) X.A (inplaceOp op u w) (fun r s₃=>wpAny (model X.prog X.w) X.A (storeName X.env x r) (fun _=>SP X pins D .next) X.xe s₃) X.xe s₂) X.xe s:=by
  refine thn (he s σ H _ I h) fun w s1 ⟨y,H1,I1,r1,q1⟩=>?_
  refine thn (ho pins s1 σ H1 v y u w _ I1 r r1 q1) fun z s2 ⟨zv,H2,I2,r2,q2⟩=>?_
  exact lD I2 hN hi hx r2 (fun s3 I3=>⟨_,H2,I3,q2⟩) hf
 rcases l with ⟨hk,hm⟩|⟨hk,c,hc,hcell⟩
 ·exact wpAny_loadName_local I.ok.kind hk hn hm go
 ·rcases hk with hk|hk
  ·exact wpAny_loadName_cell I.ok.kind hk hc hcell go
  ·rcases hx with k|k
   ·have:X.env.scope.names.lookup x=some .free:=hk
    rw [k] at this;cases this
   ·have:X.env.scope.names.lookup x=some .free:=hk
    rw [k] at this;cases this
def ipI (f:Int->Int->Int):TIp:=fun x y H Q=>∃i j,x=.int i/\y=.int j/\Q (.int (f i j)) H
theorem AgL:PIp X .Add (ipI fun i j=>i+j):=by
 intro pins s σ H x y v u Q I r1 r2 h
 obtain⟨i,j,e1,e2,q⟩:=h
 subst e1;subst e2
 obtain⟨t,rfl⟩:=r1
 obtain⟨t',rfl⟩:=r2
 exact iadd_int ⟨.int _,H,I.tok _,⟨_,rfl⟩,q⟩
def AdX (c:TT) (tb:TS):TS:=fun D σ H=>∃W:Nat->St->Hp->Prop,(∃m,W m σ H)/\∀m σ H,W m σ H ->
 c σ H fun b H1=>if b=true then ∃N:St->Hp->Prop,(∀ σ' H',N σ' H'->∃m',m'<m/\W m' σ' H')/\tb { D with nx:=N,ct:=N,bk:=D.nx } σ H1 else D.nx σ H1
theorem wC {c:Expr} {body:List Stmt} {tc:TT} {tb:TS} (hp:PassesOwn (model X.prog X.w) X.A X.env X.xe) (hc:PT X c tc) (hb:PSs X body tb):PS X (.While c body [] pos) (AdX tc tb):=by
 intro pins s σ H D I h
 obtain⟨W,⟨m0,w0⟩,turn⟩:=h
 refine wpAny_While (codeAny_whileLoop (fun n s'=>∃ σ' H',Inv X pins σ' H' s'/\W n σ' H') ?_ m0 ⟨σ,H,I,w0⟩)
 rintro n s1 ⟨σ1,H1,I1,w1⟩
 refine wpAny_passesOwn hp (thn (hc s1 σ1 H1 _ I1 (turn n σ1 H1 w1)) fun b s2 ⟨H2,I2,q2⟩=>?_)
 cases b with
 | true=>
  obtain⟨N,hN,q2⟩:=q2
  rw [if_pos rfl]
  refine wpAny_passesOwn hp (thn (hb s2 σ1 H2 _ I2 q2) fun f s3 q3=>?_)
  cases f with
  | next=>
   obtain⟨σ3,H3,I3,n3⟩:=q3
   obtain⟨m',hm,w3⟩:=hN σ3 H3 n3
   exact⟨m',hm,σ3,H3,I3,w3⟩
  | cont=>
   obtain⟨σ3,H3,I3,n3⟩:=q3
   obtain⟨m',hm,w3⟩:=hN σ3 H3 n3
   exact⟨m',hm,σ3,H3,I3,w3⟩
  | brk=>exact q3
  | ret v=>exact q3
 | false=>
  rw [if_neg Bool.false_ne_true]
  exact wpAny_execs_nil ⟨σ1,H2,I2,q2⟩
end
structure It where
 go:Nat->Hp->Prop
 yld:Nat->Hp->V->Hp->Prop
 stop:Nat->Hp->Prop
def iV (X:Cx) (pins:List (Addr × Obj)) (H:Hp) (b:Addr):Prop:=
 H b=none/\b≠X.env.locals/\b ∉ X.fs/\(b ∈ X.ex\/X.s₀.heap.objs.size<=b)/\(∀x c,X.env.cells.lookup x=some c->c≠b)/\∀p ∈ X.pn++pins,p.1≠b
theorem Inv.fpOk {X:Cx} {pins:List (Addr × Obj)} {σ:St} {H H':Hp} {s:Shared} {b:Addr} (I:Inv X pins σ H s) (hb:s.heap.objs.size<=b) (hn:H' b=none):iV X pins H' b:=by
 refine⟨hn,Nat.ne_of_gt (Nat.lt_of_lt_of_le I.lt hb),I.nofs hb,.inr (Nat.le_trans I.sz hb),fun x c e z=>?_,fun p hp z=>?_⟩
 ·obtain⟨v,q⟩:=I.cell x c e
  exact absurd (Nat.lt_of_lt_of_le q.lt (by rw [z];exact hb)) (Nat.lt_irrefl _)
 ·exact absurd (Nat.lt_of_lt_of_le (Heap.lt_size (I.pin p hp).1) (by rw [z];exact hb)) (Nat.lt_irrefl _)
structure xL (P:Program) (w:World) (K:PySem.W.Frag) (hd:Option Value) (tg:Expr) (J:It) (fp:List Addr) (it:Addr) (tn:Nat->Heap->Prop):Prop where
 mem:it ∈ fp
 obj:∀i h,tn i h->∀b ∈ fp,∃o,h.get? b=some o/\∀v,o.data≠.cell v
 keep:∀i h h',tn i h->(∀b ∈ fp,∀o,h.get? b=some o->h'.get? b=some o)->tn i h'
 item:∀(X:Cx),X.prog=P->X.w=w->X.K=K->X.A.handled=hd->∀(i:Nat) (pins:List (Addr × Obj)) (s:Shared) (σ:St) (H:Hp) (E:Value->Shared->Prop),Inv X pins σ H s->(∀b ∈ fp,iV X pins H b)->tn i s.heap->J.go i H ->
  wpAny (model P w) X.A (pyNext (.ref it)) (fun r s1=>∃u,r=some u /\
   wpAny (model P w) X.A (letOwnedTupleGo tg (.ref it) u) (fun _ s2=>∃x H',Inv X pins σ H' s2/\cK x u/\J.yld i H x H'/\tn (i+1) s2.heap/\∀b ∈ fp,H' b=none) E s1) E s
 done:∀(X:Cx),X.prog=P->X.w=w->X.K=K->X.A.handled=hd->∀(i:Nat) (pins:List (Addr × Obj)) (s:Shared) (σ:St) (H:Hp) (E:Value->Shared->Prop),Inv X pins σ H s->(∀b ∈ fp,iV X pins H b)->tn i s.heap->J.stop i H ->
  wpAny (model P w) X.A (pyNext (.ref it)) (fun r s1=>r=none/\Inv X pins σ H s1) E s
 self:∀(A:Around) (i:Nat) (s:Shared) (Q:Value->Shared->Prop) (E:Value->Shared->Prop),tn i s.heap->Q (.ref it) s->wpAny (model P w) A (pyIter (.ref it)) Q E s
abbrev TI:=St->Hp->(It->Hp->Prop)->Prop
def PIE (X:Cx) (pins:List (Addr × Obj)) (σ:St) (tg:Expr) (R:It->Hp->Prop) (itv:Value) (s2:Shared):Prop:=
 ∃(it:Addr) (fp:List Addr) (tn:Nat->Heap->Prop) (J:It) (H':Hp),itv=.ref it/\Inv X pins σ H' s2/\xL X.prog X.w X.K X.A.handled tg J fp it tn/\tn 0 s2.heap/\(∀b ∈ fp,iV X pins H' b)/\R J H'
def PI (X:Cx) (tg iter:Expr) (wi:TI):Prop:=
 ∀ ⦃pins:List (Addr × Obj)⦄ (s:Shared) (σ:St) (H:Hp) (R:It->Hp->Prop),Inv X pins σ H s->wi σ H R ->
  wpAny (model X.prog X.w) X.A (eval iter X.env) (fun v s1=>wpAny (model X.prog X.w) X.A (pyIter v) (PIE X pins σ tg R) X.xe s1) X.xe s
theorem wV {M:Model} {A:Around} {E:Value->Shared->Prop} {s:Shared} {tg:Expr} {it:Addr} {u:Value} {o:Obj} {n:String} {vs:Array Value} {Q:Unit->Shared->Prop} (ho:s.heap.get? it=some o) (hc:o.cls=.type n) (hd:o.data=.fields vs)
  (hn:["enumerate","zip","dict_itemiterator","dict_reverseitemiterator","odict_iterator","itertools.zip_longest","itertools.pairwise"].contains n=false) (hQ:Q () s):wpAny M A (letOwnedTupleGo tg (.ref it) u) Q E s:=by
 unfold letOwnedTupleGo
 cases tg <;> first
  | exact wpAny_pure hQ
  | (cases u <;> first
    | exact wpAny_pure hQ
    | (refine wpAny_bind (wpAny_load ho ?_)
       rw [hc,hd]
       show wpAny M A (if (["enumerate","zip","dict_itemiterator","dict_reverseitemiterator","odict_iterator","itertools.zip_longest","itertools.pairwise"].contains n && vs[0]? == some (rawInt _))=true then _ else _) Q E s
       rw [if_neg (by intro h;rw [hn,Bool.false_and] at h;cases h)]
       exact wpAny_pure hQ))
def Itl (K:PySem.W.Frag) (a:Addr):It:=
 ⟨fun i H=>∃xs x,SqL K H a xs/\xs[i]?=some x,fun i H x H'=>H'=H/\∀xs,SqL K H a xs->xs[i]?=some x,fun i H=>∃xs,SqL K H a xs/\xs.length<=i⟩
def Itt (K:PySem.W.Frag) (a:Addr):It:=
 ⟨fun i H=>∃xs x,SqT K H a xs/\xs[i]?=some x,fun i H x H'=>H'=H/\∀xs,SqT K H a xs->xs[i]?=some x,fun i H=>∃xs,SqT K H a xs/\xs.length<=i⟩
def Itr (lo:Int) (n:Nat):It:=⟨fun i _=>i<n,fun i H x H'=>H'=H/\x=.int (lo+i),fun i _=>n<=i⟩
theorem sF {P:Program} {hd0:Option Value} {w:World} {K:PySem.W.Frag} {tg:Expr} (a it:Addr) (e0:hd0=none):xL P w K hd0 tg (Itl K a) [it] it (fun i h=>h.IsListIter it a i) where
 mem:=by simp
 obj:=fun i h st b hb=>by
  have e:b=it:=by simpa using hb
  subst e
  obtain⟨o,e,c,d⟩:=st
  exact⟨o,e,fun v z=>by rw [d] at z;cases z⟩
 keep:=fun i h h' st k=>st.at fun o e=>k it (by simp) o e
 item:=by
  intro X hP hw hK hc i pins s σ H E I hf st hg
  subst hP hw hK
  obtain⟨xs,x,hq,hx⟩:=hg
  obtain⟨its,rv,p,hz⟩:=I.list hq
  obtain⟨u,hu,ru⟩:=rv.get hx
  obtain⟨f0,f1,f2,f3,f4,f5⟩:=hf it (by simp)
  refine wpAny_pyNext_list_item st p.isList (x:=u) (by simpa using hu) fun h' st' sb=>?_
  have I1:Inv X pins σ H { s with heap:=h' }:=I.turned (t':=s.toks) (fun b o hb e=>(sb.2 b hb).trans e) f0 f1 f3 f4 f5
  obtain⟨o,e,c,d⟩:=id st'
  exact⟨u,rfl,wV (s:={ s with heap:=h' }) e c d (by decide) ⟨x,H,I1,ru,⟨rfl,fun ys hy=>by rw [I.list_inj hy hq];exact hx⟩,st',fun b hb=>(hf b hb).1⟩⟩
 done:=by
  intro X hP hw hK hc i pins s σ H E I hf st hg
  subst hP hw hK
  obtain⟨xs,hq,hx⟩:=hg
  obtain⟨its,rv,p,hz⟩:=I.list hq
  obtain⟨f0,f1,f2,f3,f4,f5⟩:=hf it (by simp)
  have hl:=rv.length
  exact wpAny_pyNext_list_end (hc.trans e0) st p.isList (by simp;omega) fun h' eb=>⟨rfl,I.turned (t':=s.toks) (fun b o hb e=>eb b o hb e) f0 f1 f3 f4 f5⟩
 self:=fun _ _ _ _ _ st h=>wpAny_pyIter_listiter st h
theorem pK {P:Program} {hd0:Option Value} {w:World} {K:PySem.W.Frag} {tg:Expr} (a it:Addr) (e0:hd0=none):xL P w K hd0 tg (Itt K a) [it] it (fun i h=>h.IsTupleIter it a i) where
 mem:=by simp
 obj:=fun i h st b hb=>by
  have e:b=it:=by simpa using hb
  subst e
  obtain⟨o,e,c,d⟩:=st
  exact⟨o,e,fun v z=>by rw [d] at z;cases z⟩
 keep:=fun i h h' st k=>st.at fun o e=>k it (by simp) o e
 item:=by
  intro X hP hw hK hc i pins s σ H E I hf st hg
  subst hP hw hK
  obtain⟨xs,x,hq,hx⟩:=hg
  obtain⟨its,rv,p,hz⟩:=I.tuple hq
  obtain⟨u,hu,ru⟩:=rv.get hx
  obtain⟨f0,f1,f2,f3,f4,f5⟩:=hf it (by simp)
  refine wpAny_pyNext_tuple_item st (show s.heap.IsTuple a its.toArray from p) (x:=u) (by simpa using hu) fun h' st' sb=>?_
  have I1:Inv X pins σ H { s with heap:=h' }:=I.turned (t':=s.toks) (fun b o hb e=>(sb.2 b hb).trans e) f0 f1 f3 f4 f5
  obtain⟨o,e,c,d⟩:=id st'
  exact⟨u,rfl,wV (s:={ s with heap:=h' }) e c d (by decide) ⟨x,H,I1,ru,⟨rfl,fun ys hy=>by rw [I.tuple_inj hy hq];exact hx⟩,st',fun b hb=>(hf b hb).1⟩⟩
 done:=by
  intro X hP hw hK hc i pins s σ H E I hf st hg
  subst hP hw hK
  obtain⟨xs,hq,hx⟩:=hg
  obtain⟨its,rv,p,hz⟩:=I.tuple hq
  obtain⟨f0,f1,f2,f3,f4,f5⟩:=hf it (by simp)
  have hl:=rv.length
  exact wpAny_pyNext_tuple_end (hc.trans e0) st (show s.heap.IsTuple a its.toArray from p) (by simp;omega) fun h' eb=>⟨rfl,I.turned (t':=s.toks) (fun b o hb e=>eb b o hb e) f0 f1 f3 f4 f5⟩
 self:=fun _ _ _ _ _ st h=>wpAny_pyIter_tupleiter st h
theorem xR {P:Program} {hd0:Option Value} {w:World} {K:PySem.W.Frag} {tg:Expr} (it:Addr) (lo:Int) (n:Nat) (e0:hd0=none):xL P w K hd0 tg (Itr lo n) [it] it (fun i h=>IsRangeIter h it (lo+(i:Nat) * 1) ((n:Int)-(i:Nat)) 1) where
 mem:=by simp
 obj:=fun i h st b hb=>by
  have e:b=it:=by simpa using hb
  subst e
  exact⟨_,st,fun v z=>by
   have z':Data.fields _=Data.cell v:=z
   cases z'⟩
 keep:=fun i h h' st k=>k it (by simp) _ st
 item:=by
  intro X hP hw hK hc i pins s σ H E I hf st hg
  subst hP hw hK
  obtain⟨f0,f1,f2,f3,f4,f5⟩:=hf it (by simp)
  have W:=Walks.range (prog:=X.prog) (w:=X.w) (hc.trans e0) it lo 1 n
  refine W.item i s _ _ hg st fun v h' tk hv st' kk=>?_
  obtain⟨t,rfl⟩:=hv
  have I1:Inv X pins σ H { s with heap:=h',toks:=tk }:=I.turned (fun b o hb e=>kk b o (by simpa using hb) e) f0 f1 f3 f4 f5
  refine⟨_,rfl,wV (s:={ s with heap:=h',toks:=tk }) (n:="range_iterator") st' rfl rfl (by decide) ⟨.int (lo+i),H,I1,⟨t,?_⟩,⟨rfl,rfl⟩,st',fun b hb=>(hf b hb).1⟩⟩
  rw [Int.mul_one]
 done:=by
  intro X hP hw hK hc i pins s σ H E I hf st hg
  subst hP hw hK
  obtain⟨f0,f1,f2,f3,f4,f5⟩:=hf it (by simp)
  exact wpAny_pyNext_range_end (hc.trans e0) st (by have:n<=i:=hg;omega) fun h' eb=>⟨rfl,I.turned (t':=s.toks) (fun b o hb e=>eb b o hb e) f0 f1 f3 f4 f5⟩
 self:=fun _ _ _ _ _ st h=>wpAny_pyIter_rangeiter st h
section
variable {X:Cx} {tg:Expr}
def iList (K:PySem.W.Frag) (tl:TE):TI:=fun σ H R=>tl σ H fun x H1=>∃a,x=.ref a/\(∃xs,SqL K H1 a xs)/\R (Itl K a) H1
def iTup (K:PySem.W.Frag) (tl:TE):TI:=fun σ H R=>tl σ H fun x H1=>∃a,x=.ref a/\(∃xs,SqT K H1 a xs)/\R (Itt K a) H1
theorem oX {l:Expr} {tl:TE} (hl:PE X l tl) (hc0:X.calm=true:=by rfl):PI X tg l (iList X.K tl):=by
 intro pins s σ H R I h
 refine thn (hl s σ H _ I h) fun v s1 ⟨x,H1,I1,r1,q1⟩=>?_
 obtain⟨a,e,⟨xs,hq⟩,q⟩:=q1
 subst e
 cases r1
 obtain⟨its,rv,p,hz⟩:=I1.list hq
 refine wpAny_pyIter_list p.isList ?_
 refine⟨s1.heap.objs.size,[s1.heap.objs.size],_,_,H1,rfl,I1.kept (t':=s1.toks) fun b o e=>Heap.get?_push_of_some _ e,sF a _ (I.ok.hd hc0),⟨_,Heap.get?_push_size _ rfl,rfl,rfl⟩,fun b hb=>?_,q⟩
 have e:b=s1.heap.objs.size:=by simpa using hb
 subst e
 exact I1.fpOk (Nat.le_refl _) (I1.hok.fresh (Nat.le_refl _))
theorem jC {l:Expr} {tl:TE} (hl:PE X l tl) (hc0:X.calm=true:=by rfl):PI X tg l (iTup X.K tl):=by
 intro pins s σ H R I h
 refine thn (hl s σ H _ I h) fun v s1 ⟨x,H1,I1,r1,q1⟩=>?_
 obtain⟨a,e,⟨xs,hq⟩,q⟩:=q1
 subst e
 cases r1
 obtain⟨its,rv,p,hz⟩:=I1.tuple hq
 refine wpAny_pyIter_tuple (show s1.heap.IsTuple a its.toArray from p) ?_
 refine⟨s1.heap.objs.size,[s1.heap.objs.size],_,_,H1,rfl,I1.kept (t':=s1.toks) fun b o e=>Heap.get?_push_of_some _ e,pK a _ (I.ok.hd hc0),⟨_,Heap.get?_push_size _ rfl,rfl,rfl⟩,fun b hb=>?_,q⟩
 have e:b=s1.heap.objs.size:=by simpa using hb
 subst e
 exact I1.fpOk (Nat.le_refl _) (I1.hok.fresh (Nat.le_refl _))
theorem vZ {pins:List (Addr × Obj)} {σ:St} {H:Hp} {s:Shared} {R:It->Hp->Prop} {E:Value->Shared->Prop} {lo hi:Int} {t u v:Tok} {tk:Nat} (hc0:X.calm=true) (I:Inv X pins σ H s) (h1:-(2 ^ 62)<=lo) (h2:lo<2 ^ 62) (h3:-(2 ^ 62)<=hi) (h4:hi<2 ^ 62)
  (q:R (Itr lo (hi-lo).toNat) H):wpAny (model X.prog X.w) X.A (pyIter (.ref s.heap.objs.size)) (PIE X pins σ tg R) E { s with heap:=s.heap.push { cls:=.type "range",data:=.fields #[.int lo t,.int hi u,.int 1 v] },toks:=tk }:=by
 refine wpAny_pyIter_range (IsRange.new ..) (small_one h1 h2 h3 h4) ?_
 have I1:Inv X pins σ H { s with heap:=s.heap.push { cls:=.type "range",data:=.fields #[.int lo t,.int hi u,.int 1 v] },toks:=tk }:=I.kept fun b o e=>Heap.get?_push_of_some _ e
 refine⟨(s.heap.push { cls:=.type "range",data:=.fields #[.int lo t,.int hi u,.int 1 v] }).objs.size,[(s.heap.push { cls:=.type "range",data:=.fields #[.int lo t,.int hi u,.int 1 v] }).objs.size],_,_,H,rfl,
  I1.kept (t':=tk) fun b o e=>Heap.get?_push_of_some _ e,xR _ lo (hi-lo).toNat (I.ok.hd hc0),?_,fun b hb=>?_,q⟩
 ·have e1:lo+((0:Nat):Int) * 1=lo:=by simp
  have e2:(((hi-lo).toNat:Nat):Int)-((0:Nat):Int)=Builtin.Range.rangeSize lo hi 1:=by rw [rangeSize_one];split <;> omega
  show IsRangeIter _ _ (lo+((0:Nat):Int) * 1) ((((hi-lo).toNat:Nat):Int)-((0:Nat):Int)) 1
  rw [e1,e2]
  exact Heap.get?_push_size _ rfl
 ·have e:b=(s.heap.push { cls:=.type "range",data:=.fields #[.int lo t,.int hi u,.int 1 v] }).objs.size:=by simpa using hb
  subst e
  exact I1.fpOk (Nat.le_refl _) (I1.hok.fresh (Nat.le_refl _))
def iRng1 (ta:TA):TI:=fun σ H R=>ta σ H fun vs H1=>∃j:Int,vs=[.int j]/\-(2 ^ 62)<=j/\j<2 ^ 62/\R (Itr 0 j.toNat) H1
def iRng2 (ta:TA):TI:=fun σ H R=>ta σ H fun vs H1=>∃i j:Int,vs=[.int i,.int j]/\(-(2 ^ 62)<=i/\i<2 ^ 62/\-(2 ^ 62)<=j/\j<2 ^ 62)/\R (Itr i (j-i).toNat) H1
theorem nC {a:Expr} {ta:TA} {p pos:Pos} (hg:Gl X "range") (hm:X.mg "range"=none) (ha:PA X [a] ta) (hs:starEach [a] X.env=[(false,eval a X.env)]:=by rfl) (hc0:X.calm=true:=by rfl):PI X tg (.Call (.Name "range" p) [a] [] pos) (iRng1 ta):=by
 intro pins s σ H R I h
 refine Call_ (iN I hg hm boot_range (PyProof.Rows.callWith_type1 (thn (ha pins s σ H _ I h) fun us s1 ⟨vs,H1,I1,r1,q1⟩=>?_) hs rfl))
 obtain⟨j,e,q1,q2,q⟩:=q1
 subst e
 cases r1 with
 | cons r rr=>
  cases rr
  obtain⟨t,rfl⟩:=r
  exact call_range_1 (vZ hc0 I1 (by omega) (by omega) q1 q2 (by simpa using q))
theorem jQ {a b:Expr} {ta:TA} {p pos:Pos} (hg:Gl X "range") (hm:X.mg "range"=none) (ha:PA X [a,b] ta) (hs:starEach [a,b] X.env=[(false,eval a X.env),(false,eval b X.env)]:=by rfl) (hs2:starEach [b] X.env=[(false,eval b X.env)]:=by rfl) (hc0:X.calm=true:=by rfl):
  PI X tg (.Call (.Name "range" p) [a,b] [] pos) (iRng2 ta):=by
 intro pins s σ H R I h
 refine Call_ (iN I hg hm boot_range (PyProof.Rows.callWith_type1 (thn (ha pins s σ H _ I h) fun us s1 ⟨vs,H1,I1,r1,q1⟩=>?_) (by rw [hs,hs2]) (by rw [hs2];rfl)))
 obtain⟨i,j,e,⟨q1,q2,q3,q4⟩,q⟩:=q1
 subst e
 cases r1 with
 | cons r rr=>
  cases rr with
  | cons r' rr=>
   cases rr
   obtain⟨t,rfl⟩:=r
   obtain⟨t',rfl⟩:=r'
   exact call_range_2 (vZ hc0 I1 q1 q2 q3 q4 q)
def tFor (wi:TI) (g:TG) (tb:TS):TS:=fun D σ H=>wi σ H fun J H1=>∃W:Nat->Nat->St->Hp->Prop,(∃m,W 0 m σ H1)/\∀i m σ H,W i m σ H ->
 (J.stop i H/\D.nx σ H)\/(J.go i H/\∃N:St->Hp->Prop,(∀ σ' H',N σ' H'->∃m',m'<m/\W (i+1) m' σ' H')/\∀x H',J.yld i H x H'->g x σ H' fun σ2 H2=>tb { D with nx:=N,ct:=N,bk:=D.nx } σ2 H2)
def eV (fp:List Addr) (h:Heap):List (Addr × Obj):=fp.filterMap fun b=>(h.get? b).map fun o=>(b,o)
theorem dZ {fp:List Addr} {h:Heap} {b:Addr} {o:Obj} (hb:b ∈ fp) (e:h.get? b=some o):(b,o) ∈ eV fp h:=List.mem_filterMap.mpr ⟨b,hb,by rw [e];rfl⟩
theorem AcT {fp:List Addr} {h:Heap} {p:Addr × Obj} (hp:p ∈ eV fp h):p.1 ∈ fp/\h.get? p.1=some p.2:=by
 obtain⟨b,hb,e⟩:=List.mem_filterMap.mp hp
 cases q:h.get? b with
 | none=>rw [q] at e;cases e
 | some o=>
  rw [q] at e
  have e':(b,o)=p:=Option.some.inj e
  subst e'
  exact⟨hb,q⟩
theorem Inv.pinned {pins:List (Addr × Obj)} {σ:St} {H:Hp} {s:Shared} {fp:List Addr} (I:Inv X pins σ H s) (hf:∀b ∈ fp,iV X pins H b) (ho:∀b ∈ fp,∃o,s.heap.get? b=some o/\∀v,o.data≠.cell v):Inv X (pins++eV fp s.heap) σ H s:=
 I.pins_of fun p hp=>(List.mem_append.mp hp).elim (fun z=>I.pin p (List.mem_append_right _ z)) fun z=>by
  obtain⟨hb,e⟩:=AcT z
  obtain⟨f0,f1,f2,_⟩:=hf p.1 hb
  obtain⟨o,e',d⟩:=ho p.1 hb
  rw [e] at e';cases e'
  exact⟨e,f0,f1,f2,d⟩
theorem Inv.unpinned {pins pl:List (Addr × Obj)} {σ:St} {H:Hp} {s:Shared} (I:Inv X (pins++pl) σ H s):Inv X pins σ H s:=I.pins_of fun p hp=>I.pin p (List.mem_append_right _ (List.mem_append_left _ hp))
theorem eU {iter:Expr} {body:List Stmt} {wi:TI} {g:TG} {tb:TS} {pos:Pos} (hp:PassesOwn (model X.prog X.w) X.A X.env X.xe) (hc:X.calm=true) (hi:PI X tg iter wi) (hg:PG X tg g) (hb:PSs X body tb)
  (hs:∀x,foldedSetIterable iter X.env x=pure x:=by intro _;rfl):PS X (.For tg iter body [] pos) (tFor wi g tb):=by
 intro pins s σ H D I h
 refine wpAny_For (thn (hi s σ H _ I h) fun v s1 h1=>thn h1 fun itv s2 h2=>?_) hs
 obtain⟨it,fp,tn,J,H2,e,I2,T,st2,f2,W,⟨m0,w0⟩,turn⟩:=h2
 subst e
 have stat:∀{H':Hp},(∀b ∈ fp,H' b=none)->∀b ∈ fp,iV X pins H' b:=fun hn b hb=>⟨hn b hb,(f2 b hb).2⟩
 refine codeAny_forLoop_any (fun n s'=>∃i σ' H',Inv X pins σ' H' s'/\tn i s'.heap/\(∀b ∈ fp,H' b=none)/\W i n σ' H') ?_ m0 ⟨0,σ,H2,I2,st2,fun b hb=>(f2 b hb).1,w0⟩
 rintro n s3 ⟨i,σ3,H3,I3,st3,fr3,w3⟩
 rcases turn i n σ3 H3 w3 with ⟨stop,qn⟩|⟨go,N,hN,step⟩
 ·refine wpAny_passesOwn hp (thn (T.done X rfl rfl rfl rfl i pins s3 σ3 H3 X.xe I3 (stat fr3) st3 stop) fun r s4 ⟨hr,I4⟩=>?_)
  subst hr
  exact wpAny_execs_nil ⟨σ3,H3,I4,qn⟩
 ·refine wpAny_passesOwn hp (thn (T.item X rfl rfl rfl rfl i pins s3 σ3 H3 X.xe I3 (stat fr3) st3 go) fun r s4 ⟨u,hr,h4⟩=>?_)
  subst hr
  refine wpAny_passesOwn hp (thn h4 fun _ s5 ⟨x,H5,I5,r5,y5,st5,fr5⟩=>?_)
  have I5':=I5.pinned (stat fr5) (T.obj _ _ st5)
  refine wpAny_passesOwn hp (thn (hg s5 σ3 H5 x u _ I5' r5 (step x H5 y5)) fun _ s6 ⟨σ6,H6,I6,q6⟩=>?_)
  refine wpAny_passesOwn hp (thn (hb s6 σ6 H6 _ I6 q6) fun f s7 q7=>?_)
  have again:∀{σ7:St} {H7:Hp},Inv X (pins++eV fp s5.heap) σ7 H7 s7->N σ7 H7->∃m,m<n/\∃i σ' H',Inv X pins σ' H' s7/\tn i s7.heap/\(∀b ∈ fp,H' b=none)/\W i m σ' H':=fun {σ7 H7} I7 n7=>by
   obtain⟨m',hm,w7⟩:=hN σ7 H7 n7
   refine⟨m',hm,i+1,σ7,H7,I7.unpinned,T.keep _ _ _ st5 fun b hb o e=>(I7.pin (b,o) (List.mem_append_right _ (List.mem_append_right _ (dZ hb e)))).1,fun b hb=>?_,w7⟩
   obtain⟨o,e,d⟩:=T.obj _ _ st5 b hb
   exact(I7.pin (b,o) (List.mem_append_right _ (List.mem_append_right _ (dZ hb e)))).2.1
  cases f with
  | next=>obtain⟨σ7,H7,I7,n7⟩:=q7;exact again I7 n7
  | cont=>obtain⟨σ7,H7,I7,n7⟩:=q7;exact again I7 n7
  | brk=>obtain⟨σ7,H7,I7,q7⟩:=q7;exact⟨σ7,H7,I7.unpinned,q7⟩
  | ret v=>obtain⟨x7,σ7,H7,I7,r7,q7⟩:=q7;exact⟨x7,σ7,H7,I7.unpinned,r7,q7⟩
end
theorem AgS {K:PySem.W.Frag} {a:Addr} {xs:List V} {g:TG} {tb:TS} {D:jI} {σ:St} {H:Hp} (Pv:Nat->St->Hp->Prop) (h0:Pv 0 σ H) (hl:∀i σ H,i<=xs.length->Pv i σ H->SqL K H a xs)
  (hs:∀i x σ H,xs[i]?=some x->Pv i σ H->g x σ H fun σ2 H2=>tb { D with nx:=Pv (i+1),ct:=Pv (i+1),bk:=D.nx } σ2 H2) (hd:∀ σ H,Pv xs.length σ H->D.nx σ H):
  ∃W:Nat->Nat->St->Hp->Prop,(∃m,W 0 m σ H)/\∀i m σ H,W i m σ H ->
   ((Itl K a).stop i H/\D.nx σ H)\/((Itl K a).go i H/\∃N:St->Hp->Prop,(∀ σ' H',N σ' H'->∃m',m'<m/\W (i+1) m' σ' H')/\∀x H',(Itl K a).yld i H x H'->g x σ H' fun σ2 H2=>tb { D with nx:=N,ct:=N,bk:=D.nx } σ2 H2):=by
 refine⟨fun i m σ H=>m=xs.length-i/\i<=xs.length/\Pv i σ H,⟨xs.length,by simp,Nat.zero_le _,h0⟩,?_⟩
 rintro i m σ H ⟨rfl,hi,p⟩
 have q:=hl i σ H hi p
 by_cases hlt:i<xs.length
 ·refine .inr ⟨⟨xs,xs[i],q,by simp [hlt]⟩,Pv (i+1),fun σ' H' p'=>⟨xs.length-(i+1),by omega,rfl,hlt,p'⟩,fun x H' y=>?_⟩
  obtain⟨e,y⟩:=y
  subst e
  exact hs i x σ _ (y xs q) p
 ·have e:i=xs.length:=by omega
  subst e
  exact .inl ⟨⟨xs,q,Nat.le_refl _⟩,hd σ H p⟩
theorem lV {K:PySem.W.Frag} {a:Addr} {xs:List V} {g:TG} {tb:TS} {D:jI} {σ:St} {H:Hp} (Pv:Nat->St->Hp->Prop) (h0:Pv 0 σ H) (hl:∀i σ H,i<=xs.length->Pv i σ H->SqT K H a xs)
  (hs:∀i x σ H,xs[i]?=some x->Pv i σ H->g x σ H fun σ2 H2=>tb { D with nx:=Pv (i+1),ct:=Pv (i+1),bk:=D.nx } σ2 H2) (hd:∀ σ H,Pv xs.length σ H->D.nx σ H):
  ∃W:Nat->Nat->St->Hp->Prop,(∃m,W 0 m σ H)/\∀i m σ H,W i m σ H ->
   ((Itt K a).stop i H/\D.nx σ H)\/((Itt K a).go i H/\∃N:St->Hp->Prop,(∀ σ' H',N σ' H'->∃m',m'<m/\W (i+1) m' σ' H')/\∀x H',(Itt K a).yld i H x H'->g x σ H' fun σ2 H2=>tb { D with nx:=N,ct:=N,bk:=D.nx } σ2 H2):=by
 refine⟨fun i m σ H=>m=xs.length-i/\i<=xs.length/\Pv i σ H,⟨xs.length,by simp,Nat.zero_le _,h0⟩,?_⟩
 rintro i m σ H ⟨rfl,hi,p⟩
 have q:=hl i σ H hi p
 by_cases hlt:i<xs.length
 ·refine .inr ⟨⟨xs,xs[i],q,by simp [hlt]⟩,Pv (i+1),fun σ' H' p'=>⟨xs.length-(i+1),by omega,rfl,hlt,p'⟩,fun x H' y=>?_⟩
  obtain⟨e,y⟩:=y
  subst e
  exact hs i x σ _ (y xs q) p
 ·have e:i=xs.length:=by omega
  subst e
  exact .inl ⟨⟨xs,q,Nat.le_refl _⟩,hd σ H p⟩
theorem iC {lo:Int} {n:Nat} {g:TG} {tb:TS} {D:jI} {σ:St} {H:Hp} (Pv:Nat->St->Hp->Prop) (h0:Pv 0 σ H)
  (hs:∀i σ H,i<n->Pv i σ H->g (.int (lo+i)) σ H fun σ2 H2=>tb { D with nx:=Pv (i+1),ct:=Pv (i+1),bk:=D.nx } σ2 H2) (hd:∀ σ H,Pv n σ H->D.nx σ H):
  ∃W:Nat->Nat->St->Hp->Prop,(∃m,W 0 m σ H)/\∀i m σ H,W i m σ H ->
   ((Itr lo n).stop i H/\D.nx σ H)\/((Itr lo n).go i H/\∃N:St->Hp->Prop,(∀ σ' H',N σ' H'->∃m',m'<m/\W (i+1) m' σ' H')/\∀x H',(Itr lo n).yld i H x H'->g x σ H' fun σ2 H2=>tb { D with nx:=N,ct:=N,bk:=D.nx } σ2 H2):=by
 refine⟨fun i m σ H=>m=n-i/\i<=n/\Pv i σ H,⟨n,by simp,Nat.zero_le _,h0⟩,?_⟩
 rintro i m σ H ⟨rfl,hi,p⟩
 by_cases hlt:i<n
 ·refine .inr ⟨hlt,Pv (i+1),fun σ' H' p'=>⟨n-(i+1),by omega,rfl,hlt,p'⟩,fun x H' y=>?_⟩
  obtain⟨e,y⟩:=y
  subst e y
  exact hs i σ _ hlt p
 ·have e:i=n:=by omega
  subst e
  exact .inl ⟨Nat.le_refl _,hd σ H p⟩
theorem vK {c:TT} {tb:TS} {D:jI} {σ:St} {H:Hp} (Pv:St->Hp->Prop) (μ:St->Hp->Nat) (h0:Pv σ H)
  (hs:∀ σ H,Pv σ H->c σ H fun b H1=>if b=true then tb { D with nx:=fun σ' H'=>Pv σ' H'/\μ σ' H'<μ σ H,ct:=fun σ' H'=>Pv σ' H'/\μ σ' H'<μ σ H,bk:=D.nx } σ H1 else D.nx σ H1)
  (mono:∀ σ H Q Q',(∀b H1,Q b H1->Q' b H1)->c σ H Q->c σ H Q'):AdX c tb D σ H:=by
 refine⟨fun m σ H=>m=μ σ H/\Pv σ H,⟨_,rfl,h0⟩,?_⟩
 rintro m σ H ⟨rfl,p⟩
 refine mono σ H _ _ (fun b H1 q=>?_) (hs σ H p)
 cases b with
 | true=>exact⟨_,fun σ' H' ⟨p',l⟩=>⟨_,l,rfl,p'⟩,q⟩
 | false=>exact q
abbrev R2:=V->V->Hp->VK->Prop
def OpR (X:Cx) (f:Value->Value->Sem Value) (r:R2):Prop:=
 ∀(pins:List (Addr × Obj)) (s:Shared) (σ:St) (H:Hp) (x y:V) (v u:Value) (Q:VK),Inv X pins σ H s->cK x v->cK y u->r x y H Q ->
  wpAny (model X.prog X.w) X.A (f v u) (EP X pins σ Q) X.xe s
def UnR (X:Cx) (f:Value->Sem Value) (r:V->Hp->VK->Prop):Prop:=
 ∀(pins:List (Addr × Obj)) (s:Shared) (σ:St) (H:Hp) (x:V) (v:Value) (Q:VK),Inv X pins σ H s->cK x v->r x H Q ->
  wpAny (model X.prog X.w) X.A (f v) (EP X pins σ Q) X.xe s
def iS (X:Cx) (f:Value) (r:List V->Hp->VK->Prop):Prop:=
 ∀(pins:List (Addr × Obj)) (s:Shared) (σ:St) (H:Hp) (xs:List V) (us:List Value) (Q:VK),Inv X pins σ H s->cE xs us->r xs H Q ->
  wpAny (model X.prog X.w) X.A (call f us) (EP X pins σ Q) X.xe s
def TruR (X:Cx) (r:V->Hp->(Bool->Hp->Prop)->Prop):Prop:=
 ∀(pins:List (Addr × Obj)) (s:Shared) (σ:St) (H:Hp) (x:V) (v:Value) (Q:Bool->Hp->Prop),Inv X pins σ H s->cK x v->r x H Q ->
  wpAny (model X.prog X.w) X.A (truthy v) (TP X pins σ Q) X.xe s
def tOp (r:R2) (ta tb:TE):TE:=fun σ H Q=>ta σ H fun x H1=>tb σ H1 fun y H2=>r x y H2 Q
def tUn (r:V->Hp->VK->Prop) (ta:TE):TE:=fun σ H Q=>ta σ H fun x H1=>r x H1 Q
def rI (C:Int->Int->Prop) (g:Int->Int->V):R2:=fun x y H Q=>∃i j,x=.int i/\y=.int j/\C i j/\Q (g i j) H
def rI0 (g:Int->Int->V):R2:=fun x y H Q=>∃i j,x=.int i/\y=.int j/\Q (g i j) H
def rU (g:Int->V):V->Hp->VK->Prop:=fun x H Q=>∃i,x=.int i/\Q (g i) H
section
variable {X:Cx} {a b c:Expr} {ta tb tc:TE} {pos:Pos}
theorem binT (ha:PE X a ta) (hb:PE X b tb) {pins:List (Addr × Obj)} {s:Shared} {σ:St} {H:Hp} {R:V->V->Hp->Prop} (I:Inv X pins σ H s)
  (h:ta σ H fun x H1=>tb σ H1 fun y H2=>R x y H2) {Q:Value->Shared->Prop} {f:Value->Value->Sem Value}
  (hf:∀v u s2 x y H2,Inv X pins σ H2 s2->cK x v->cK y u->R x y H2->wpAny (model X.prog X.w) X.A (f v u) Q X.xe s2):
  wpAny (model X.prog X.w) X.A (eval a X.env) (fun v s₁=>wpAny (model X.prog X.w) X.A (eval b X.env) (fun u s₂=>wpAny (model X.prog X.w) X.A (f v u) Q X.xe s₂) X.xe s₁) X.xe s:=by
 refine thn (ha s σ H _ I h) fun v s1 ⟨x,H1,I1,r1,q1⟩=>?_
 refine thn (hb s1 σ H1 _ I1 q1) fun u s2 ⟨y,H2,I2,r2,q2⟩=>?_
 exact hf v u s2 x y H2 I2 r1 r2 q2
theorem bU {op:Operator} {r:R2} (ho:OpR X (binaryOp op) r) (ha:PE X a ta) (hb:PE X b tb):PE X (.BinOp a op b pos) (tOp r ta tb):=by
 intro pins s σ H Q I h
 exact wpAny_BinOp (binT ha hb I h fun v u s2 x y H2 I2 rx ry q=>ho pins s2 σ H2 x y v u Q I2 rx ry q)
theorem sQ {op:UnaryOp} {r:V->Hp->VK->Prop} (ho:UnR X (unaryOp op) r) (ha:PE X a ta):PE X (.UnaryOp op a pos) (tUn r ta):=by
 intro pins s σ H Q I h
 exact UnaryOp_ (thn (ha s σ H _ I h) fun v s1 ⟨x,H1,I1,r1,q1⟩=>ho pins s1 σ H1 x v Q I1 r1 q1)
theorem opI {f:Value->Value->Sem Value} {C:Int->Int->Prop} {g:Int->Int->Int}
  (rule:∀(i j:Int) (t u:Tok) (s:Shared) (Q:Value->Shared->Prop) (E:Value->Shared->Prop),C i j->Q (.int (g i j) s.toks) { s with toks:=s.toks+1 }->wpAny (model X.prog X.w) X.A (f (.int i t) (.int j u)) Q E s):
  OpR X f (rI C fun i j=>.int (g i j)):=by
 intro pins s σ H x y v u Q I rx ry h
 obtain⟨i,j,rfl,rfl,hc,q⟩:=h
 obtain⟨t,rfl⟩:=rx
 obtain⟨t',rfl⟩:=ry
 exact rule i j t t' s _ _ hc ⟨.int (g i j),H,I.tok _,⟨_,rfl⟩,q⟩
theorem opI0 {f:Value->Value->Sem Value} {g:Int->Int->Int}
  (rule:∀(i j:Int) (t u:Tok) (s:Shared) (Q:Value->Shared->Prop) (E:Value->Shared->Prop),Q (.int (g i j) s.toks) { s with toks:=s.toks+1 }->wpAny (model X.prog X.w) X.A (f (.int i t) (.int j u)) Q E s):
  OpR X f (rI0 fun i j=>.int (g i j)):=by
 intro pins s σ H x y v u Q I rx ry h
 obtain⟨i,j,rfl,rfl,q⟩:=h
 obtain⟨t,rfl⟩:=rx
 obtain⟨t',rfl⟩:=ry
 exact rule i j t t' s _ _ ⟨.int (g i j),H,I.tok _,⟨_,rfl⟩,q⟩
theorem opB0 {f:Value->Value->Sem Value} {g:Int->Int->Bool}
  (rule:∀(i j:Int) (t u:Tok) (s:Shared) (Q:Value->Shared->Prop) (E:Value->Shared->Prop),Q (.bool (g i j)) s->wpAny (model X.prog X.w) X.A (f (.int i t) (.int j u)) Q E s):
  OpR X f (rI0 fun i j=>.bl (g i j)):=by
 intro pins s σ H x y v u Q I rx ry h
 obtain⟨i,j,rfl,rfl,q⟩:=h
 obtain⟨t,rfl⟩:=rx
 obtain⟨t',rfl⟩:=ry
 exact rule i j t t' s _ _ ⟨.bl (g i j),H,I,rfl,q⟩
def CDiv (i j:Int):Prop:=0<j/\j<1073741824
def CPow (i j:Int):Prop:=0<=j/\j<=1000000/\i.natAbs<2 ^ 64
def CMul (i j:Int):Prop:=(-(2 ^ 64)<i/\i<2 ^ 64)\/(-(2 ^ 64)<j/\j<2 ^ 64)
theorem CMul.ok {i j:Int} (h:CMul i j):IntMulOk i j:=by
 rcases h with ⟨h1,h2⟩|⟨h1,h2⟩
 ·exact .of_left (intBits_le_64 h1 h2)
 ·exact .of_right (intBits_le_64 h1 h2)
theorem dG:OpR X (binaryOp .Add) (rI0 fun i j=>.int (i+j)):=opI0 fun _ _ _ _ _ _ _ q=>add_int q
theorem kX:OpR X (binaryOp .Sub) (rI0 fun i j=>.int (i-j)):=opI0 fun _ _ _ _ _ _ _ q=>sub_int q
theorem kY:OpR X (binaryOp .Mult) (rI CMul fun i j=>.int (i * j)):=opI fun _ _ _ _ _ _ _ hc q=>mul_int q hc.ok
theorem uV:OpR X (binaryOp .FloorDiv) (rI CDiv fun i j=>.int (i / j)):=opI fun i j _ _ _ _ _ hc q=>by
 have h1:(0:Int)<j:=hc.1
 have h2:j<1073741824:=hc.2
 exact floordiv_int (by omega) (by rw [Int.fdiv_eq_ediv_of_nonneg i (by omega)];exact q) (.inl (PyProof.noPylong_small (by omega)))
theorem nF:OpR X (binaryOp .Mod) (rI (fun _ j=>0<j) fun i j=>.int (i % j)):=opI fun i j _ _ _ _ _ hc q=>by
 have h1:(0:Int)<j:=hc
 exact mod_int' (by omega) (by rw [Int.fmod_eq_emod_of_nonneg i (by omega)];exact q)
theorem qM:OpR X (binaryOp .Pow) (rI CPow fun i j=>.int (i ^ j.toNat)):=opI fun _ _ _ _ _ _ _ hc q=>pow_int_small hc.1 hc.2.1 hc.2.2 q
theorem unI {f:Value->Sem Value} {g:Int->Int}
  (rule:∀(i:Int) (t:Tok) (s:Shared) (Q:Value->Shared->Prop) (E:Value->Shared->Prop),Q (.int (g i) s.toks) { s with toks:=s.toks+1 }->wpAny (model X.prog X.w) X.A (f (.int i t)) Q E s):
  UnR X f (rU fun i=>.int (g i)):=by
 intro pins s σ H x v Q I rx h
 obtain⟨i,rfl,q⟩:=h
 obtain⟨t,rfl⟩:=rx
 exact rule i t s _ _ ⟨.int (g i),H,I.tok _,⟨_,rfl⟩,q⟩
theorem lZ:UnR X (unaryOp .USub) (rU fun i=>.int (-i)):=unI fun _ _ _ _ _ q=>neg_int q
def scal:V->V->Bool
 | .non,.non=>true | .non,.int _=>true | .int _,.non=>true | .non,.bl _=>true | .bl _,.non=>true | .non,.str _=>true | .str _,.non=>true
 | .int _,.int _=>true | .bl _,.bl _=>true | .str _,.str _=>true | .byt _,.byt _=>true
 | .int _,.str _=>true | .str _,.int _=>true | .bl _,.str _=>true | .str _,.bl _=>true
 | _,_=>false
def rEq:R2:=fun x y H Q=>scal x y=true/\Q (.bl (decide (x=y))) H
def rNe:R2:=fun x y H Q=>scal x y=true/\Q (.bl (!decide (x=y))) H
theorem pF {i j:Int}:decide (V.int i=V.int j)=(i == j):=by
 rw [Bool.eq_iff_iff]
 simp
theorem AhF {i j:Bool}:decide (V.bl i=V.bl j)=(i == j):=by
 rw [Bool.eq_iff_iff]
 simp
theorem AbN {i j:Str}:decide (V.str i=V.str j)=(i == j):=by
 rw [Bool.eq_iff_iff]
 simp
theorem AbO {i j:Array UInt8}:decide (V.byt i=V.byt j)=(i.toList == j.toList):=by
 rw [Bool.eq_iff_iff]
 cases i
 cases j
 simp
theorem cP {pins:List (Addr × Obj)} {σ:St} {H:Hp} {s:Shared} {Q:VK} {k k':Bool} (I:Inv X pins σ H s) (q:Q (.bl k) H) (e:k=k'):EP X pins σ Q (.bool k') s:=by
 subst e
 exact⟨.bl k,H,I,rfl,q⟩
theorem gO:OpR X (compareOp .Eq) rEq:=by
 intro pins s σ H x y v u Q I rx ry h
 obtain⟨hs,q⟩:=h
 cases x with
 | non=>
  cases rx
  cases y with
  | non=>cases ry;exact PySem.EqNone.eq_none_none (cP I q (by simp))
  | bl j=>cases ry;exact PySem.EqNone.eq_none_bool (cP I q (by simp))
  | int j=>obtain⟨t',rfl⟩:=ry;exact PySem.EqNone.eq_none_int (cP I q (by simp))
  | str j=>obtain⟨t',rfl⟩:=ry;exact PySem.EqNone.eq_none_str (cP I q (by simp))
  | _=>exact absurd (show false=true from hs) Bool.false_ne_true
 | bl i=>
  cases rx
  cases y with
  | non=>cases ry;exact PySem.EqNone.eq_bool_none (cP I q (by simp))
  | bl j=>cases ry;exact eq_bool (cP I q AhF)
  | str j=>obtain⟨t',rfl⟩:=ry;exact PySem.EqMixed.eq_bool_str (cP I q (by simp))
  | _=>exact absurd (show false=true from hs) Bool.false_ne_true
 | int i=>
  obtain⟨t,rfl⟩:=rx
  cases y with
  | non=>cases ry;exact PySem.EqNone.eq_int_none (cP I q (by simp))
  | int j=>obtain⟨t',rfl⟩:=ry;exact eq_int (cP I q pF)
  | str j=>obtain⟨t',rfl⟩:=ry;exact PySem.EqMixed.eq_int_str (cP I q (by simp))
  | _=>exact absurd (show false=true from hs) Bool.false_ne_true
 | str i=>
  obtain⟨t,rfl⟩:=rx
  cases y with
  | non=>cases ry;exact PySem.EqNone.eq_str_none (cP I q (by simp))
  | bl j=>cases ry;exact PySem.EqMixed.eq_str_bool (cP I q (by simp))
  | int j=>obtain⟨t',rfl⟩:=ry;exact PySem.EqMixed.eq_str_int (cP I q (by simp))
  | str j=>obtain⟨t',rfl⟩:=ry;exact eq_str (cP I q AbN)
  | _=>exact absurd (show false=true from hs) Bool.false_ne_true
 | byt i=>
  obtain⟨t,rfl⟩:=rx
  cases y with
  | byt j=>obtain⟨t',rfl⟩:=ry;exact PySem.W.eq_bytes (cP I q AbO)
  | _=>exact absurd (show false=true from hs) Bool.false_ne_true
 | _=>cases y <;> exact absurd (show false=true from hs) Bool.false_ne_true
theorem AaY:OpR X (compareOp .NotEq) rNe:=by
 intro pins s σ H x y v u Q I rx ry h
 obtain⟨hs,q⟩:=h
 cases x with
 | non=>
  cases rx
  cases y with
  | non=>cases ry;exact PySem.EqNone.ne_none_none (cP I q (by simp))
  | bl j=>cases ry;exact PySem.EqNone.ne_none_bool (cP I q (by simp))
  | int j=>obtain⟨t',rfl⟩:=ry;exact PySem.EqNone.ne_none_int (cP I q (by simp))
  | str j=>obtain⟨t',rfl⟩:=ry;exact PySem.EqNone.ne_none_str (cP I q (by simp))
  | _=>exact absurd (show false=true from hs) Bool.false_ne_true
 | bl i=>
  cases rx
  cases y with
  | non=>cases ry;exact PySem.EqNone.ne_bool_none (cP I q (by simp))
  | bl j=>cases ry;exact ne_bool (cP I q (congrArg not AhF))
  | str j=>obtain⟨t',rfl⟩:=ry;exact PySem.EqMixed.ne_bool_str (cP I q (by simp))
  | _=>exact absurd (show false=true from hs) Bool.false_ne_true
 | int i=>
  obtain⟨t,rfl⟩:=rx
  cases y with
  | non=>cases ry;exact PySem.EqNone.ne_int_none (cP I q (by simp))
  | int j=>obtain⟨t',rfl⟩:=ry;exact ne_int (cP I q (congrArg not pF))
  | str j=>obtain⟨t',rfl⟩:=ry;exact PySem.EqMixed.ne_int_str (cP I q (by simp))
  | _=>exact absurd (show false=true from hs) Bool.false_ne_true
 | str i=>
  obtain⟨t,rfl⟩:=rx
  cases y with
  | non=>cases ry;exact PySem.EqNone.ne_str_none (cP I q (by simp))
  | bl j=>cases ry;exact PySem.EqMixed.ne_str_bool (cP I q (by simp))
  | int j=>obtain⟨t',rfl⟩:=ry;exact PySem.EqMixed.ne_str_int (cP I q (by simp))
  | str j=>obtain⟨t',rfl⟩:=ry;exact ne_str (cP I q (congrArg not AbN))
  | _=>exact absurd (show false=true from hs) Bool.false_ne_true
 | byt i=>
  obtain⟨t,rfl⟩:=rx
  cases y with
  | byt j=>obtain⟨t',rfl⟩:=ry;exact PySem.W.ne_bytes (cP I q (congrArg not AbO))
  | _=>exact absurd (show false=true from hs) Bool.false_ne_true
 | _=>cases y <;> exact absurd (show false=true from hs) Bool.false_ne_true
theorem fX:OpR X (compareOp .Lt) (rI0 fun i j=>.bl (decide (i<j))):=opB0 fun _ _ _ _ _ _ _ q=>lt_int q
theorem lT:OpR X (compareOp .LtE) (rI0 fun i j=>.bl (decide (i<=j))):=opB0 fun _ _ _ _ _ _ _ q=>le_int q
theorem AaZ:OpR X (compareOp .Gt) (rI0 fun i j=>.bl (decide (j<i))):=opB0 fun _ _ _ _ _ _ _ q=>gt_int q
theorem op_ge:OpR X (compareOp .GtE) (rI0 fun i j=>.bl (decide (j<=i))):=opB0 fun _ _ _ _ _ _ _ q=>ge_int q
theorem qO:OpR X (compareOp .Is) (fun x y H Q=>y=.non/\Q (.bl (decide (x=.non))) H):=by
 intro pins s σ H x y v u Q I rx ry h
 obtain⟨rfl,q⟩:=h
 cases ry
 refine is_none_gen (cP I q ?_)
 cases x <;> first
  | (cases rx;rfl)
  | (obtain⟨t,rfl⟩:=rx;rfl)
theorem uU:OpR X (compareOp .IsNot) (fun x y H Q=>y=.non/\Q (.bl (!decide (x=.non))) H):=by
 intro pins s σ H x y v u Q I rx ry h
 obtain⟨rfl,q⟩:=h
 cases ry
 refine isnot_none_gen (cP I q ?_)
 cases x <;> first
  | (cases rx;rfl)
  | (obtain⟨t,rfl⟩:=rx;rfl)
theorem bX (b:Expr) {op:CmpOp} (h:op≠.In:=by decide) (h2:op≠.NotIn:=by decide):behindInMarks op b=false:=by
 have e1:(op == CmpOp.In)=false:=by cases op <;> first|rfl|exact absurd rfl h
 have e2:(op == CmpOp.NotIn)=false:=by cases op <;> first|rfl|exact absurd rfl h2
 cases b <;> simp [behindInMarks,e1,e2]
theorem eJ {op:CmpOp} {r:R2} (ho:OpR X (compareOp op) r) (ha:PE X a ta) (hb:PE X b tb) (hm:behindInMarks op b=false):PE X (.Compare a [op] [b] pos) (tOp r ta tb):=by
 intro pins s σ H Q I h
 exact wpAny_Compare1 (binT ha hb I h fun v u s2 x y H2 I2 rx ry q=>ho pins s2 σ H2 x y v u Q I2 rx ry q) hm
def tTest (t:TE):TT:=fun σ H Q=>t σ H fun x H'=>∃k,x=.bl k/\Q k H'
theorem cB {op:CmpOp} {r:R2} (ho:OpR X (compareOp op) r) (ha:PE X a ta) (hb:PE X b tb) (hm:behindInMarks op b=false):PT X (.Compare a [op] [b] pos) (tTest (tOp r ta tb)):=by
 intro pins s σ H Q I h
 refine wpAny_isTrue_Compare1 (thn (ha s σ H _ I h) fun v s1 ⟨x,H1,I1,r1,q1⟩=>thn (hb s1 σ H1 _ I1 q1) fun u s2 ⟨y,H2,I2,r2,q2⟩=>
  thn (ho pins s2 σ H2 x y v u _ I2 r1 r2 q2) fun c s3 ⟨z,H3,I3,r3,k,e,q3⟩=>?_) hm
 subst e
 cases r3
 exact wpAny_truthy_bool ⟨H3,I3,q3⟩
def AdZ (r r':R2) (ta tb tc:TE):TE:=fun σ H Q=>ta σ H fun x H1=>tb σ H1 fun y H2=>r x y H2 fun z H3=>∃k,z=.bl k /\
 (if k=true then tc σ H3 fun w' H4=>r' y w' H4 Q else Q (.bl false) H3)
theorem AeZ {op op':CmpOp} {r r':R2} (ho:OpR X (compareOp op) r) (ho':OpR X (compareOp op') r') (ha:PE X a ta) (hb:PE X b tb) (hc:PE X c tc)
  (hm:lastMarks [op,op'] [b,c]=false:=by with_unfolding_all rfl):PE X (.Compare a [op,op'] [b,c] pos) (AdZ r r' ta tb tc):=by
 intro pins s σ H Q I h
 refine Compare_chain (thn (ha s σ H _ I h) fun v s1 ⟨x,H1,I1,r1,q1⟩=>chain_link (thn (hb s1 σ H1 _ I1 q1) fun u s2 ⟨y,H2,I2,r2,q2⟩=>
  thn (ho pins s2 σ H2 x y v u _ I2 r1 r2 q2) fun d s3 ⟨z,H3,I3,r3,k,e,q3⟩=>?_)) hm
 subst e
 cases r3
 refine wpAny_truthy_bool ?_
 cases k with
 | false=>exact ite_ff ⟨.bl false,H3,I3,rfl,q3⟩
 | true=>exact ite_tt (chain_last (thn (hc s3 σ H3 _ I3 q3) fun w' s4 ⟨z',H4,I4,r4,q4⟩=>ho' pins s4 σ H4 y z' u w' Q I4 r2 r4 q4))
theorem lQ {op op':CmpOp} {r r':R2} (ho:OpR X (compareOp op) r) (ho':OpR X (compareOp op') r') (ha:PE X a ta) (hb:PE X b tb) (hc:PE X c tc)
  (hm:lastMarks [op,op'] [b,c]=false:=by with_unfolding_all rfl):PT X (.Compare a [op,op'] [b,c] pos) (tTest (AdZ r r' ta tb tc)):=by
 intro pins s σ H Q I h
 refine isTrue_chain (thn (ha s σ H _ I h) fun v s1 ⟨x,H1,I1,r1,q1⟩=>test_link (thn (hb s1 σ H1 _ I1 q1) fun u s2 ⟨y,H2,I2,r2,q2⟩=>
  thn (ho pins s2 σ H2 x y v u _ I2 r1 r2 q2) fun d s3 ⟨z,H3,I3,r3,k,e,q3⟩=>?_)) hm
 subst e
 cases r3
 refine wpAny_truthy_bool ?_
 cases k with
 | false=>
  obtain⟨k',e',q'⟩:=q3
  cases e'
  exact ite_ff ⟨H3,I3,q'⟩
 | true=>
  refine ite_tt (test_last (thn (hc s3 σ H3 _ I3 q3) fun w' s4 ⟨z',H4,I4,r4,q4⟩=>thn (ho' pins s4 σ H4 y z' u w' _ I4 r2 r4 q4) fun d' s5 ⟨z2,H5,I5,r5,k2,e2,q5⟩=>?_))
  subst e2
  cases r5
  exact wpAny_truthy_bool ⟨H5,I5,q5⟩
def TruV (K:PySem.W.Frag) (x:V) (H:Hp) (k:Bool):Prop:=
 match x with
 | .non=>k=false
 | .bl b=>k=b
 | .int i=>k=(i != 0)
 | .str y=>y.length<=sizeLine/\k=((y.length:Int) != 0)
 | .byt y=>y.size<=sizeLine/\k=((y.size:Int) != 0)
 | .ref p=>(∃xs,SqL K H p xs/\k=!xs.isEmpty)\/(∃xs,SqT K H p xs/\k=!xs.isEmpty)\/∃kvs,H p=some (.dK kvs)/\k=!kvs.isEmpty
 | _=>False
theorem zO {κ:Type} {kvs:List (κ × V)} {vs:List (κ × Value)} (r:KV kvs vs):(!vs.isEmpty)=!kvs.isEmpty:=by
 cases r <;> rfl
theorem qX {xs:List V} {its:List Value} (r:cE xs its):(!its.toArray.isEmpty)=!xs.isEmpty:=by
 cases r <;> simp
theorem nJ:(sizeLine:Nat)<2 ^ 63:=by rw [sizeLine_eq];decide
theorem tru_ok:TruR X (fun x H Q=>∃k,TruV X.K x H k/\Q k H):=by
 intro pins s σ H x v Q I rx h
 obtain⟨k,e,q⟩:=h
 have hl:=nJ
 have hs:sizeLine=16777216:=sizeLine_eq
 cases x with
 | non=>
  cases rx
  have e':k=false:=e
  subst e'
  exact truthy_none ⟨H,I,q⟩
 | bl b=>
  cases rx
  have e':k=b:=e
  subst e'
  exact wpAny_truthy_bool ⟨H,I,q⟩
 | int i=>
  obtain⟨t,rfl⟩:=rx
  have e':k=(i != 0):=e
  subst e'
  exact PySem.P.truthy_int ⟨H,I,q⟩
 | str y=>
  obtain⟨t,rfl⟩:=rx
  obtain⟨hy,e'⟩:y.length<=sizeLine/\k=((y.length:Int) != 0):=e
  subst e'
  exact PySem.P.truthy_str (by omega) ⟨H,I.tok _,q⟩
 | byt y=>
  obtain⟨t,rfl⟩:=rx
  obtain⟨hy,e'⟩:y.size<=sizeLine/\k=((y.size:Int) != 0):=e
  subst e'
  exact PySem.W.truthy_bytes (by omega) ⟨H,I.tok _,q⟩
 | ref p=>
  cases rx
  have e':(∃xs,SqL X.K H p xs/\k=!xs.isEmpty)\/(∃xs,SqT X.K H p xs/\k=!xs.isEmpty)\/∃kvs,H p=some (.dK kvs)/\k=!kvs.isEmpty:=e
  rcases e' with ⟨xs,hx,e'⟩|⟨xs,hx,e'⟩|⟨kvs,hx,e'⟩
  ·subst e'
   obtain⟨its,r,pl,hz⟩:=I.list hx
   have hlen:=r.length
   exact wpAny_truthy_list pl.isList (by simp only [List.size_toArray];omega) ⟨H,I.tok _,by rw [qX r];exact q⟩
  ·subst e'
   obtain⟨its,r,pl,hz⟩:=I.tuple hx
   have hlen:=r.length
   exact truthy_tuple pl (by simp only [List.size_toArray];omega) ⟨H,I.tok _,by rw [qX r];exact q⟩
  ·subst e'
   obtain⟨hz,hS,vs,r,m⟩:kvs.length<=sizeLine/\(p == sysModules)=false/\∃vs,KV kvs vs/\s.heap.DictOf (cY X.prog X.w) p vs:=I.hok p _ hx
   have hlen:kvs.length=vs.length:=Paired.length r
   exact wpAny_truthy_dict hS m (by omega) ⟨H,I.tok _,by rw [zO r];exact q⟩
 | _=>exact(show False from e).elim
theorem hX (ha:PE X a ta) (he:∀whole,isTrue a X.env whole=(do let v <- whole;standAt a.pos;holding [v] (truthy v))):
  PT X a (fun σ H Q=>ta σ H fun x H'=>∃k,TruV X.K x H' k/\Q k H'):=by
 intro pins s σ H Q I h
 exact isTrue_plain (thn (ha s σ H _ I h) fun v s1 ⟨x,H1,I1,r1,q1⟩=>tru_ok pins s1 σ H1 x v Q I1 r1 q1) (he _)
theorem zB:OpR X (binaryOp .Add) (fun x y H Q=>∃i j,x=.str i/\y=.str j/\i.length+j.length<=sizeLine/\Q (.str (i++j)) H):=by
 intro pins s σ H x y v u Q I rx ry h
 obtain⟨i,j,rfl,rfl,hz,q⟩:=h
 obtain⟨t,rfl⟩:=rx
 obtain⟨t',rfl⟩:=ry
 exact add_str (fun t' tk=>⟨.str (i++j),H,I.tok _,⟨_,rfl⟩,q⟩) hz
theorem lC {x:V} {us:List Value} (r:cE [x] us):∃u,us=[u]/\cK x u:=by
 cases r with
 | cons r1 r2=>cases r2;exact⟨_,rfl,r1⟩
theorem vals2 {x y:V} {us:List Value} (r:cE [x,y] us):∃u w',us=[u,w']/\cK x u/\cK y w':=by
 cases r with
 | cons r1 r2=>
  cases r2 with
  | cons r3 r4=>cases r4;exact⟨_,_,rfl,r1,r3⟩
theorem AdQ (hc:X.calm=true):iS X (.builtin "max") (fun xs H Q=>∃i j,xs=[.int i,.int j]/\Q (.int (if j > i then j else i)) H):=by
 intro pins s σ H xs us Q I r h
 obtain⟨i,j,rfl,q⟩:=h
 obtain⟨u,w',rfl,⟨t,rfl⟩,⟨t',rfl⟩⟩:=vals2 r
 refine max_two_ints (I.ok.hd hc) fun h' tk k=>⟨_,H,I.kept k,?_,q⟩
 by_cases hj:j > i
 ·rw [if_pos hj,if_pos hj];exact⟨_,rfl⟩
 ·rw [if_neg hj,if_neg hj];exact⟨_,rfl⟩
theorem nX:iS X (.type "int") (fun xs H Q=>(∃i,xs=[.int i]/\Q (.int i) H)\/∃k,xs=[.bl k]/\Q (.int (if k then 1 else 0)) H):=by
 intro pins s σ H xs us Q I r h
 rcases h with ⟨i,rfl,q⟩|⟨k,rfl,q⟩
 ·obtain⟨u,rfl,t,rfl⟩:=lC r
  exact call_int_int ⟨.int i,H,I,⟨_,rfl⟩,q⟩
 ·obtain⟨u,rfl,r1⟩:=lC r
  cases r1
  exact call_int_bool ⟨.int (if k then 1 else 0),H,I.tok _,⟨_,rfl⟩,q⟩
end
structure ObjM (h:Heap) (x dx C:Addr) (mA:Str->Option Value):Prop where
 obj:h.get? x=some (PySem.W.instObj C dx)
 ns:h.Ns1 dx mA
 ne:dx≠x
theorem AdA {h:Heap} {dx:Addr} {mA:Str->Option Value} (n:h.Ns1 dx mA):∃od,h.get? dx=some od/\∀name,PySem.W.lookIn name od=some (mA name):=by
 obtain⟨o,es,ep,ho,hd,hk,_,hm⟩:=n
 refine⟨o,ho,fun name=>?_⟩
 have e:=hm name
 unfold nsFind findBy at e
 rw [<- Array.find?_toList] at e
 unfold PySem.W.lookIn
 rw [hd]
 dsimp only
 split
 ·rename_i y q
  rw [q] at e
  exact congrArg some e
 ·rename_i q
  rw [q] at e
  have a:es.toList.any (·.refKey)=false:=by
   rw [List.any_eq_false]
   intro y hy
   obtain⟨z,t,hkey⟩:=hk y (Array.mem_toList_iff.mp hy)
   simp [DictEntry.refKey,hkey]
  have a':¬ es.toList.any (·.refKey)=true:=by rw [a];exact Bool.false_ne_true
  rw [if_neg a']
  exact congrArg some e
theorem ObjM.look {h:Heap} {x dx C:Addr} {mA:Str->Option Value} (I:ObjM h x dx C mA):∃od,PySem.W.InstAt h x (PySem.W.instObj C dx) C (some od)/\∀name,PySem.W.lookIn name od=some (mA name):=
 let ⟨od,ho,hl⟩:=AdA I.ns
 ⟨od,⟨I.obj,rfl,rfl,ho⟩,hl⟩
section
variable {prog:Program} {w:World} {A:Around} {E:Value->Shared->Prop} {s:Shared} {K:PySem.W.Frag} {x dx C f:Addr} {mA:Str->Option Value} {name:Str} {v:Value}
theorem get_map {expr:Bool} {Q:Value->Shared->Prop} (X:K.In s.heap) (I:ObjM s.heap x dx C mA) (hg:PySem.W.plainGet K C name=true) (hh:PySem.W.hasDictIn K C=true)
  (ha:PySem.W.findIn K (.ref C) name=some none) (hv:mA name=some v) (hv':PySem.W.handedIn v=true) (h:Q v { s with toks:=s.toks+1 }):
  wpAny (model prog w) A (getAttr (.ref x) name expr) Q E s:=by
 obtain⟨od,J,hl⟩:=I.look
 exact PySem.W.get_value X J (PySem.W.plainGet_of hg).1 (PySem.W.findObj_own hh ha rfl (by rw [hl,hv])) hv' h
theorem AgO {pl:Sem Bool} {Q:Value × List Value->Shared->Prop} (X:K.In s.heap) (I:ObjM s.heap x dx C mA) (hg:PySem.W.plainGet K C name=true)
  (hf:PySem.W.findIn K (.ref C) name=some (some (.ref f))) (ht:PySem.W.isFn K (.ref f)=true) (hv:mA name=none) (h:Q (.ref f,[.ref x]) s):
  wpAny (model prog w) A (getMethod (.ref x) name pl) Q E s:=by
 obtain⟨od,J,hl⟩:=I.look
 exact PySem.W.method_fn X J (PySem.W.plainGet_of hg).1 (PySem.W.plainGet_of hg).2 hf (beq_iff_eq.mp ht) (by show (PySem.W.lookIn name od).map (·.isSome)=some false;rw [hl,hv];rfl) h
theorem lJ {ns:List Str} {Q:Unit->Shared->Prop} (X:K.In s.heap) (I:ObjM s.heap x dx C mA)
  (hs:PySem.W.findIn K (.ref C) "__setattr__"=some (some (.builtin "object.__setattr__"))) (hp:PySem.W.plainOver K C=true) (ht:PySem.W.takerIn K C name=some none) (hh:PySem.W.hasDictIn K C=true)
  (hw:PySem.Within mA ns) (hsz:ns.length<=sizeLine)
  (h:∀h',ObjM h' x dx C (fun y=>if y=name then some v else mA y)->Heap.SameBut dx s.heap h'->Q () { s with heap:=h',toks:=s.toks+2 }):
  wpAny (model prog w) A (setAttr (.ref x) name v) Q E s:=by
 obtain⟨od,J,hl⟩:=I.look
 refine PySem.W.set_plain X J hs (PySem.W.osa_open (s:={ s with toks:=s.toks+1 }) (r:=none) X J hp ht fun b=>?_)
 obtain⟨cd,hc,hd'⟩:=PySem.W.any_some hh
 have hx:s.heap.get? x=some ⟨.ref C,some dx,.plain,#[]⟩:=I.obj
 refine wpAny_bind (wpAny_pure (wpAny_bind (wpAny_bind (wpAny_loadPart hx (wpAny_bind (PySem.W.Looks.here (s:={ s with toks:=s.toks+1 }) (PySem.W.looks_clsIn X hc) ?_))))))
 rw [hd']
 refine wpAny_pure (a:=some dx) (wpAny_bind (wpAny_pure (wpAny_bind ?_)))
 refine wpAny_nsSet1 (s:={ s with toks:=s.toks+1 }) I.ns fun h' hn2 hs2=>?_
 obtain⟨oD,esD,epD,hoD,hdD,hcD⟩:=hn2.count (PySem.Within.cons name v hw)
 refine wpAny_bind (wpAny_lookBehind hoD (by rw [hdD];exact pastItsLine_dict (Nat.le_trans hcD (by rw [List.length_cons];omega))) ?_)
 exact wpAny_pure (h _ ⟨(hs2.2 _ (Ne.symm I.ne)).trans I.obj,hn2,I.ne⟩ hs2)
theorem AgD {R:Result->Shared->Prop} {vs:List Value} {kw:List (Str × Value)} (X:K.In s.heap) (hm:PySem.W.makesIn K C=true)
  (hi:PySem.W.findIn K (.ref C) "__init__"=some (some (.ref f))) (hf:PySem.W.typeIn K (.ref f)=some (.type "function"))
  (h:codeAny (model prog w) (A.under (.builtin "type.__call__" ⟨.ref C::vs,kw⟩)) (.call (.ref f) ⟨.ref (s.heap.objs.size+1)::vs,kw⟩) (PySem.W.InitBack (s.heap.objs.size+1) R)
   { s with heap:=(s.heap.push PySem.W.emptyDict).push (PySem.W.instObj C s.heap.objs.size) }):
  codeAny (model prog w) A (.call (.ref C) ⟨vs,kw⟩) R s:=by
 obtain⟨hh,g,d,t,os⟩:=s
 exact PySem.W.make_core (PySem.W.makes_of X hm) (PySem.W.looks_findIn X hi) (fun self=>PySem.W.bind_fn X self hf) (.inl rfl) h
end
def dD (f:Str) (v:V):List (Str × V)->List (Str × V)
 | []=>[(f,v)]
 | (g,x)::r=>if g=f then(g,v)::r else(g,x)::dD f v r
theorem eE (f g:Str) (v:V):∀fs:List (Str × V),(dD f v fs).lookup g=if g=f then some v else fs.lookup g
 | []=>by
  show List.lookup g [(f,v)]=_
  by_cases h:g=f
  ·have hb:(g == f)=true:=beq_iff_eq.mpr h
   simp only [List.lookup,hb,if_pos h]
  ·have hb:(g == f)=false:=beq_eq_false_iff_ne.mpr h
   simp only [List.lookup,hb,if_neg h]
 | (k,x)::r=>by
  have ih:=eE f g v r
  rw [show dD f v ((k,x)::r)=(if k=f then(k,v)::r else(k,x)::dD f v r) from rfl]
  by_cases hk:k=f
  ·rw [if_pos hk]
   by_cases h:g=k
   ·have hb:(g == k)=true:=beq_iff_eq.mpr h
    simp only [List.lookup,hb,if_pos (h.trans hk)]
   ·have hb:(g == k)=false:=beq_eq_false_iff_ne.mpr h
    simp only [List.lookup,hb,if_neg (fun e:g=f=>h (e.trans hk.symm))]
  ·rw [if_neg hk]
   by_cases h:g=k
   ·have hb:(g == k)=true:=beq_iff_eq.mpr h
    simp only [List.lookup,hb,if_neg (fun e:g=f=>hk (h.symm.trans e))]
   ·have hb:(g == k)=false:=beq_eq_false_iff_ne.mpr h
    simp only [List.lookup,hb]
    exact ih
theorem nK (f:Str) (v:V):∀fs:List (Str × V),f ∈ (dD f v fs).map (·.1)/\∀g,g ∈ fs.map (·.1)->g ∈ (dD f v fs).map (·.1)
 | []=>⟨by simp [dD],fun g h=>by simp at h⟩
 | (k,x)::r=>by
  obtain⟨i1,i2⟩:=nK f v r
  rw [show dD f v ((k,x)::r)=(if k=f then(k,v)::r else(k,x)::dD f v r) from rfl]
  by_cases hk:k=f
  ·rw [if_pos hk]
   subst hk
   exact⟨by simp,fun g h=>by simpa using h⟩
  ·rw [if_neg hk]
   refine⟨?_,fun g h=>?_⟩
   ·rw [List.map_cons]
    exact List.mem_cons_of_mem _ i1
   ·rw [List.map_cons] at h ⊢
    rcases List.mem_cons.mp h with e|e
    ·exact List.mem_cons.mpr (.inl e)
    ·exact List.mem_cons_of_mem _ (i2 g e)
theorem oG (f:Str) (v:V):∀fs:List (Str × V),(dD f v fs).length<=fs.length+1
 | []=>by simp [dD]
 | (k,x)::r=>by
  have ih:=oG f v r
  rw [show dD f v ((k,x)::r)=(if k=f then(k,v)::r else(k,x)::dD f v r) from rfl]
  by_cases hk:k=f
  ·rw [if_pos hk,List.length_cons,List.length_cons];omega
  ·rw [if_neg hk,List.length_cons,List.length_cons];omega
theorem iU.some_of {v:V} {o:Option Value} (r:iU (some v) o):∃u,o=some u/\cK v u:=by
 cases o with
 | none=>exact(show False from r).elim
 | some u=>exact⟨u,rfl,r⟩
theorem iU.none_of {o:Option Value} (r:iU none o):o=none:=by
 cases o with
 | none=>rfl
 | some u=>exact(show False from r).elim
theorem AdI {v:V} {u:Value} (r:cK v u):PySem.W.handedIn u=true:=by
 cases v with
 | non=>cases (show u=Value.none from r);rfl
 | bl b=>cases (show u=Value.bool b from r);rfl
 | int i=>obtain⟨t,e⟩:=(show ∃t,u=Value.int i t from r);cases e;rfl
 | str x=>obtain⟨t,e⟩:=(show ∃t,u=Value.str x t from r);cases e;rfl
 | byt b=>obtain⟨t,e⟩:=(show ∃t,u=Value.bytes b t from r);cases e;rfl
 | flt b=>obtain⟨t,e⟩:=(show ∃t,u=Value.float b t from r);cases e;rfl
 | ref a=>cases (show u=Value.ref a from r);rfl
 | ty n=>cases (show u=Value.type n from r);rfl
section
variable {P:Program} {w:World} {H H':Hp} {h h':Heap} {a C dx:Addr} {fs fs':List (Str × V)}
theorem pE (hok:HOk P w H h) (e:H a=some (.ins C dx fs)):∃mA,ObjM h a dx C mA/\(∀f,iU (fs.lookup f) (mA f))/\PySem.Within mA (fs.map (·.1))/\fs.length<=1000/\H dx=some (.own a):=by
 obtain⟨d,z,ne,ob,mA,n,r,q⟩:=(show cL P w H h a (.ins C dx fs) from hok a _ e)
 exact⟨mA,⟨ob,n,ne⟩,r,q,z,d⟩
end
structure Cls (K:PySem.W.Frag) (C:Addr):Prop where
 pg:PySem.W.plainGet K C Str.empty=true
 hd:PySem.W.hasDictIn K C=true
 po:PySem.W.plainOver K C=true
 sa:PySem.W.findIn K (.ref C) "__setattr__"=some (some (.builtin "object.__setattr__"))
theorem Cls.get {K:PySem.W.Frag} {C:Addr} (c:Cls K C) (f:Str):PySem.W.plainGet K C f=true:=c.pg
def NoAttr (K:PySem.W.Frag) (C:Addr) (f:Str):Prop:=PySem.W.findIn K (.ref C) f=some none
theorem NoAttr.taker {K:PySem.W.Frag} {C:Addr} {f:Str} (n:NoAttr K C f):PySem.W.takerIn K C f=some none:=by
 unfold PySem.W.takerIn
 rw [show PySem.W.findIn K (.ref C) f=some none from n]
 rfl
structure dE (K:PySem.W.Frag) (C:Addr) (m:Str) (f:Addr):Prop where
 at_:PySem.W.findIn K (.ref C) m=some (some (.ref f))
 fn:PySem.W.isFn K (.ref f)=true
 kp:PySem.W.keepIn K (.ref f)=true
section
variable {X:Cx} {pins:List (Addr × Obj)} {σ:St} {H:Hp} {s:Shared} {a C dx:Addr} {fs:List (Str × V)} {f:Str} {v:V} {A:Around} {E:Value->Shared->Prop}
theorem rA {b:Bool} {Q:Value->Shared->Prop} (I:Inv X pins σ H s) (e:H a=some (.ins C dx fs)) (c:Cls X.K C) (n:NoAttr X.K C f) (l:fs.lookup f=some v)
  (h:∀u s',Inv X pins σ H s'->cK v u->Q u s'):wpAny (model X.prog X.w) A (getAttr (.ref a) f b) Q E s:=by
 obtain⟨mA,O,r,_,_,_⟩:=pE I.hok e
 obtain⟨u,hu,ru⟩:=iU.some_of (v:=v) (o:=mA f) (by rw [<- l];exact r f)
 exact get_map I.kIn O (c.get f) c.hd n hu (AdI ru) (h u _ (I.tok _) ru)
theorem qZ {m:Str} {g:Addr} {pl:Sem Bool} {Q:Value × List Value->Shared->Prop} (I:Inv X pins σ H s) (e:H a=some (.ins C dx fs)) (c:Cls X.K C) (k:dE X.K C m g) (l:fs.lookup m=none)
  (h:Q (.ref g,[.ref a]) s):wpAny (model X.prog X.w) A (getMethod (.ref a) m pl) Q E s:=by
 obtain⟨mA,O,r,_,_,_⟩:=pE I.hok e
 have hn:mA m=none:=iU.none_of (by rw [<- l];exact r m)
 exact AgO I.kIn O (c.get m) k.at_ k.fn hn h
theorem pV {y:V} {u:Value} {Q:Unit->Shared->Prop} (I:Inv X pins σ H s) (e:H a=some (.ins C dx fs)) (c:Cls X.K C) (n:NoAttr X.K C f) (hl:fs.length<1000) (ry:cK y u)
  (h:∀s',Inv X pins σ (upd H a (.ins C dx (dD f y fs))) s'->Q () s'):wpAny (model X.prog X.w) A (setAttr (.ref a) f u) Q E s:=by
 obtain⟨mA,O,r,wi,_,ho⟩:=pE I.hok e
 have hz:(fs.map (·.1)).length<=sizeLine:=by rw [List.length_map,sizeLine_eq];omega
 refine lJ I.kIn O c.sa c.po n.taker c.hd wi hz fun h' O' sb=>h _ ?_
 have hd:∃o,h'.get? dx=some o:=let ⟨o,_,_,e',_⟩:=O'.ns;⟨o,e'⟩
 refine I.write (x:=a) (e:=dx) (by rw [e];exact True.intro) (.inr ho) (fun b q hb z=>(sb.2 b hb).trans z) hd ?_
 refine⟨by rw [aG O.ne];exact ho,?_,O.ne,O'.obj,_,O'.ns,fun g=>?_,fun g hg=>?_⟩
 ·have:=oG f y fs;omega
 ·show iU ((dD f y fs).lookup g) (if g=f then some u else mA g)
  rw [eE]
  by_cases q:g=f
  ·rw [if_pos q,if_pos q];exact ry
  ·rw [if_neg q,if_neg q];exact r g
 ·by_cases q:g=f
  ·rw [q];exact(nK f y fs).1
  ·refine(nK f y fs).2 g (wi g fun z=>hg ?_)
   show (if g=f then some u else mA g)=none
   rw [if_neg q];exact z
theorem Inv.made (I:Inv X pins σ H s):Inv X pins σ (upd (upd H s.heap.objs.size (.own (s.heap.objs.size+1))) (s.heap.objs.size+1) (.ins C s.heap.objs.size []))
  { s with heap:=(s.heap.push PySem.W.emptyDict).push (PySem.W.instObj C s.heap.objs.size) }:=by
 have e1:(s.heap.push PySem.W.emptyDict).get? s.heap.objs.size=some PySem.W.emptyDict:=Heap.get?_push_size s.heap rfl
 have e2:((s.heap.push PySem.W.emptyDict).push (PySem.W.instObj C s.heap.objs.size)).get? (s.heap.objs.size+1)=some (PySem.W.instObj C s.heap.objs.size):=by
  have:=Heap.get?_push_size (s.heap.push PySem.W.emptyDict) (o:=PySem.W.instObj C s.heap.objs.size) rfl
  rwa [Heap.size_push] at this
 have e3:(s.heap.push PySem.W.emptyDict).Ns s.heap.objs.size (fun _=>none):=⟨PySem.W.emptyDict,#[],_,e1,rfl,(fun e he=>absurd he (by simp)),fun _=>rfl⟩
 have I1:=I.laid (a:=s.heap.objs.size) (o:=.own (s.heap.objs.size+1)) (h':=s.heap.push PySem.W.emptyDict) (t':=s.toks) (fun b u q=>Heap.get?_push_of_some _ q) (Nat.le_refl _) ⟨_,e1⟩
 refine I1.laid (a:=s.heap.objs.size+1) (o:=.ins C s.heap.objs.size []) (t':=s.toks) (fun b u q=>Heap.get?_push_of_some _ q) (Nat.le_of_eq (Heap.size_push _ _)) ?_
 have ne:s.heap.objs.size≠s.heap.objs.size+1:=Nat.ne_of_lt (Nat.lt_succ_self _)
 refine⟨by rw [aG ne,aD],Nat.zero_le _,ne,e2,fun _=>none,(Heap.Ns1.of_empty e3).at fun o q=>Heap.get?_push_of_some _ q,fun _=>True.intro,fun y hy=>absurd rfl hy⟩
theorem attr_of {prog:Program} {w:World} {env:Env} {e:Expr} {f:Str} {pos:Pos} {s:Shared} {Q:Value->Shared->Prop} (hb:attributeBase e f env (eval e env)=eval e env)
  (h:wpAny (model prog w) A (eval e env) (fun o s₁=>wpAny (model prog w) A (getAttr o f true) Q E s₁) E s):wpAny (model prog w) A (eval (.Attribute e f pos) env) Q E s:=
 Attribute_any_ h (by rw [arm_eval_Attribute,hb])
end
def tFld (K:PySem.W.Frag) (ta:TE) (f:Str):TE:=fun σ H Q=>ta σ H fun x H1=>∃a C dx fs v,x=.ref a/\H1 a=some (.ins C dx fs)/\Cls K C/\NoAttr K C f/\fs.lookup f=some v/\Q v H1
def sFld (K:PySem.W.Frag) (ta tv:TE) (f:Str):TS:=fun D σ H=>tv σ H fun y H1=>ta σ H1 fun x H2=>∃a C dx fs,x=.ref a/\H2 a=some (.ins C dx fs)/\Cls K C/\NoAttr K C f/\fs.length<1000 /\
 D.nx σ (upd H2 a (.ins C dx (dD f y fs)))
def InOp (X:Cx) (op:Operator) (rd:V->V->Hp->VK->Prop):Prop:=
 ∀(pins:List (Addr × Obj)) (s:Shared) (σ:St) (H:Hp) (x y:V) (u v:Value) (Q:VK),Inv X pins σ H s->cK x u->cK y v->rd x y H Q->wpAny (model X.prog X.w) X.A (inplaceOp op u v) (EP X pins σ Q) X.xe s
def sFldAug (K:PySem.W.Frag) (ta tv:TE) (rd:V->V->Hp->VK->Prop) (f:Str):TS:=fun D σ H=>ta σ H fun x H1=>∃a C dx fs v,x=.ref a/\H1 a=some (.ins C dx fs)/\Cls K C/\NoAttr K C f/\fs.lookup f=some v /\
 tv σ H1 fun y H2=>rd v y H2 fun z H3=>∃dx' fs',H3 a=some (.ins C dx' fs')/\fs'.length<1000/\D.nx σ (upd H3 a (.ins C dx' (dD f z fs')))
section
variable {X:Cx} {o e value:Expr} {f:Str} {pos pos' tpos:Pos} {ta tv:TE}
theorem aV (he:PE X e ta) (hb:attributeBase e f X.env (eval e X.env)=eval e X.env):PE X (.Attribute e f pos) (tFld X.K ta f):=by
 intro pins s σ H Q I h
 refine attr_of hb (thn (he s σ H _ I h) fun u s1 ⟨x,H1,I1,rx,a,C,dx,fs,v,ex,ea,c,n,l,q⟩=>?_)
 subst ex
 obtain rfl:u=Value.ref a:=rx
 exact rA I1 ea c n l fun u' s2 I2 ru=>⟨v,H1,I2,ru,q⟩
theorem dJ (ha:PE X o ta) (hv:PE X value tv) (hs:swapsWith value (some (.Attribute o f pos')) pos.line X.env=pure false):PS X (.Assign [.Attribute o f pos'] value pos) (sFld X.K ta tv f):=by
 intro pins s σ H D I h
 refine plainObj_wpAny_Assign_Attribute (thn (hv s σ H _ I h) fun u s1 ⟨y,H1,I1,ry,q⟩=>thn (ha s1 σ H1 _ I1 q) fun ov s2 ⟨x,H2,I2,rx,a,C,dx,fs,ex,ea,c,n,l,q2⟩=>?_) hs
 subst ex
 obtain rfl:ov=Value.ref a:=rx
 exact pV I2 ea c n l ry fun s3 I3=>⟨σ,_,I3,q2⟩
theorem sP {op:Operator} {rd:V->V->Hp->VK->Prop} (ha:PE X o ta) (hv:PE X value tv) (hop:InOp X op rd):PS X (.AugAssign (.Attribute o f tpos) op value pos) (sFldAug X.K ta tv rd f):=by
 intro pins s σ H D I h
 refine wpAny_AugAssign_AttributeAny (thn (ha s σ H _ I h) fun ov s1 ⟨x,H1,I1,rx,a,C,dx,fs,v,ex,ea,c,n,l,q⟩=>?_)
 subst ex
 obtain rfl:ov=Value.ref a:=rx
 refine rA I1 ea c n l fun u s2 I2 ru=>thn (hv s2 σ H1 _ I2 q) fun w3 s3 ⟨y,H2,I3,ry,q3⟩=>thn (hop pins s3 σ H2 v y u w3 _ I3 ru ry q3) fun w4 s4 ⟨z,H3,I4,rz,dx',fs',ea',l',q4⟩=>?_
 exact pV I4 ea' c n l' rz fun s5 I5=>⟨σ,_,I5,q4⟩
def rAdd:V->V->Hp->VK->Prop:=fun x y H Q=>∃i j,x=.int i/\y=.int j/\Q (.int (i+j)) H
theorem AgM:InOp X .Add rAdd:=by
 rintro pins s σ H x y u v Q I rx ry ⟨i,j,rfl,rfl,q⟩
 obtain⟨t,rfl⟩:=(show ∃t,u=Value.int i t from rx)
 obtain⟨t',rfl⟩:=(show ∃t',v=Value.int j t' from ry)
 exact PyProof.Rows.iadd_int ⟨.int (i+j),H,I.tok _,⟨_,rfl⟩,q⟩
end
section
variable {X:Cx} {pins:List (Addr × Obj)} {σ:St} {H:Hp} {s:Shared} {A:Around} {E:Value->Shared->Prop} {Q:Value->Shared->Prop} {c:Value} {b:Bool}
inductive iP (K:PySem.W.Frag) (H:Hp):V->Value->Prop where
 | non:iP K H .non (.type "NoneType")
 | bl (x:Bool):iP K H (.bl x) (.type "bool")
 | int (i:Int):iP K H (.int i) (.type "int")
 | str (x:Str):iP K H (.str x) (.type "str")
 | flt (x:UInt64):iP K H (.flt x) (.type "float")
 | lst {a:Addr} {xs:List V} (e:H a=some (.lst xs)):iP K H (.ref a) (.type "list")
 | frz {a:Addr} {o:Obj} {xs:List V} (e:H a=some (.frz o (.lst xs))):iP K H (.ref a) (.type "list")
 | tup {a:Addr} {xs:List V} (e:H a=some (.tup xs)):iP K H (.ref a) (.type "tuple")
 | dK {a:Addr} {kvs:List (Key × V)} (e:H a=some (.dK kvs)):iP K H (.ref a) (.type "dict")
 | dT {a:Addr} {kvs:List (List Key × V)} (e:H a=some (.dT kvs)):iP K H (.ref a) (.type "dict")
 | ins {a C dx:Addr} {fs:List (Str × V)} (e:H a=some (.ins C dx fs)) (cl:Cls K C) (ha:PySem.W.findIn K (.ref C) "__class__"=some (some (.builtin "object.__class__")))
   (hn:PySem.W.specialIn K (.builtin "object.__class__") "__get__"=some (some (.builtin "getset_descriptor.__get__"))) (htk:PySem.W.takesIn K (.builtin "object.__class__")=some true)
   (hm:PySem.W.mroIn K C (.type "object")=some true):iP K H (.ref a) (.ref C)
theorem AdG {x:V} {u t:Value} (I:Inv X pins σ H s) (rx:cK x u) (ty:iP X.K H x t) (e:PySem.W.kitOne X.K t c=some b) (h:∀tk,Q (.bool b) { s with toks:=tk }):
  wpAny (model X.prog X.w) A (call (.builtin "isinstance") [u,c]) Q E s:=by
 cases ty with
 | non=>cases (show u=Value.none from rx);exact PySem.W.kia_one PySem.W.kitx_none I.kIn True.intro e (fun z=>nomatch z) h
 | bl y=>cases (show u=Value.bool y from rx);exact PySem.W.kia_one PySem.W.kitx_bool I.kIn True.intro e (fun z=>nomatch z) h
 | int i=>obtain⟨t,q⟩:=(show ∃t,u=Value.int i t from rx);cases q;exact PySem.W.kia_one PySem.W.kitx_int I.kIn True.intro e (fun z=>nomatch z) h
 | str y=>obtain⟨t,q⟩:=(show ∃t,u=Value.str y t from rx);cases q;exact PySem.W.kia_one PySem.W.kitx_str I.kIn True.intro e (fun z=>nomatch z) h
 | flt y=>obtain⟨t,q⟩:=(show ∃t,u=Value.float y t from rx);cases q;exact PySem.W.kia_one PySem.W.kitx_float I.kIn True.intro e (fun z=>nomatch z) h
 | @lst a xs ea=>
  cases (show u=Value.ref a from rx)
  obtain⟨_,_,n,_,h1⟩:=(show cL X.prog X.w H s.heap a (.lst xs) from I.hok a _ ea)
  exact PySem.W.kia_one PySem.W.kitx_list I.kIn ⟨_,h1,rfl⟩ e (fun z=>nomatch z) h
 | @frz a ob xs ea=>
  cases (show u=Value.ref a from rx)
  obtain⟨_,_,_,n,_,h1⟩:=(show cL X.prog X.w H s.heap a (.frz ob (.lst xs)) from I.hok a _ ea)
  exact PySem.W.kia_one PySem.W.kitx_list I.kIn ⟨_,h1,rfl⟩ e (fun z=>nomatch z) h
 | @tup a xs ea=>
  cases (show u=Value.ref a from rx)
  obtain⟨_,_,_,p⟩:=(show cL X.prog X.w H s.heap a (.tup xs) from I.hok a _ ea)
  obtain⟨o,h1,h2,_⟩:=p
  exact PySem.W.kia_one PySem.W.kitx_tuple I.kIn ⟨o,h1,h2⟩ e (fun z=>nomatch z) h
 | @dK a kvs ea=>
  cases (show u=Value.ref a from rx)
  obtain⟨_,_,vs,_,p⟩:=(show cL X.prog X.w H s.heap a (.dK kvs) from I.hok a _ ea)
  obtain⟨o,es,ep,h1,h2,_⟩:=p
  exact PySem.W.kia_one PySem.W.kitx_dict I.kIn ⟨o,h1,h2.1⟩ e (fun z=>nomatch z) h
 | @dT a kvs ea=>
  cases (show u=Value.ref a from rx)
  obtain⟨_,_,xs,_,o,es,ep,h1,h2,_⟩:=(show cL X.prog X.w H s.heap a (.dT kvs) from I.hok a _ ea)
  exact PySem.W.kia_one PySem.W.kitx_dict I.kIn ⟨o,h1,h2.1⟩ e (fun z=>nomatch z) h
 | @ins a C dx fs ea cl ha hn htk hm=>
  cases (show u=Value.ref a from rx)
  obtain⟨mA,O,_⟩:=pE I.hok ea
  obtain⟨od,J,_⟩:=O.look
  exact PySem.W.kia_one (PySem.W.kitx_own (cl.get _) cl.hd ha hn htk hm) I.kIn J e (fun z=>nomatch z) h
end
structure Room (k:Nat) (A:Around):Prop where
 hd:A.handled=none
 dp:A.depth+3 * k+5<recursionLimit
 un:A.units+16 * k+200<cLine
theorem Room.mono {j k:Nat} {A:Around} (r:Room k A) (h:j<=k):Room j A:=⟨r.hd,by have:=r.dp;omega,by have:=r.un;omega⟩
theorem Room.deeper {k:Nat} {A:Around} (r:Room (k+1) A) (env:Env):Room k (A.deeper env):=
 ⟨r.hd,by have:=r.dp;show A.depth+1+3 * k+5<_;omega,by have:=r.un;show A.units+3+16 * k+200<_;omega⟩
theorem Room.in1 {k:Nat} {A:Around} (r:Room (k+1) A):Room k A.in1:=
 ⟨r.hd,by have:=r.dp;show A.depth+3 * k+5<_;omega,by have:=r.un;show A.units+1+16 * k+200<_;omega⟩
theorem zN {A:Around} {C:Addr} {us:List Value} {kw:List (Str × Value)}:(A.under (.builtin "type.__call__" ⟨.ref C::us,kw⟩)).depth=A.depth+1:=by
 first|rfl|simp [Around.under,Code.weight,Code.isCreation,Code.isGuard,Code.isCaller,Code.frames,Code.isFrame,guardIds]
theorem zM {A:Around} {C:Addr} {us:List Value} {kw:List (Str × Value)}:(A.under (.builtin "type.__call__" ⟨.ref C::us,kw⟩)).units=A.units+1:=by
 first|rfl|simp [Around.under,Code.cUnits,Code.frames,Code.isFrame]
theorem Room.make {k:Nat} {A:Around} (r:Room (k+1) A) (C:Addr) (us:List Value) (kw:List (Str × Value)):Room k (A.under (.builtin "type.__call__" ⟨.ref C::us,kw⟩)):=
 ⟨r.hd,by have:=r.dp;rw [zN];omega,by have:=r.un;rw [zM];omega⟩
theorem Room.depth {k:Nat} {A:Around} (r:Room k A):A.depth<recursionLimit:=by have:=r.dp;omega
theorem Room.units {k:Nat} {A:Around} (r:Room k A):A.units+64<cLine:=by have:=r.un;omega
def oH:TA:=fun _ H Q=>Q [] H
def hG (ta:TE) (tr:TA):TA:=fun σ H Q=>ta σ H fun x H1=>tr σ H1 fun xs H2=>Q (x::xs) H2
section
variable {X:Cx} {e:Expr} {es:List Expr} {te:TE} {t:TA} {pos:Pos}
theorem aB:PA X [] oH:=fun _ _ _ _ H Q I h=>Calls.spliced_nil ⟨[],H,I,.nil,h⟩
theorem aA (ha:PE X e te) (hr:PA X es t) (hs:starEach (e::es) X.env=(false,eval e X.env)::starEach es X.env:=by rfl):PA X (e::es) (hG te t):=by
 intro pos pins s σ H Q I h
 rw [hs]
 show wpAny _ _ (spliced ((false,eval e X.env)::backTo pos (starEach es X.env))) _ _ s
 refine Calls.spliced_cons (thn (ha s σ H _ I h) fun u s1 ⟨x,H1,I1,r1,q1⟩=>?_)
 exact thn (hr pins s1 σ H1 _ I1 q1) fun us s2 ⟨xs,H2,I2,r2,q2⟩=>⟨x::xs,H2,I2,.cons r1 r2,q2⟩
def tTup (t:TA):TE:=fun σ H Q=>t σ H fun xs H1=>xs.length<=sizeLine/\∀p,H1 p=none->Q (.ref p) (upd H1 p (.tup xs))
def tLst (t:TA):TE:=fun σ H Q=>t σ H fun xs H1=>xs.length<=sizeLine/\∀p,H1 p=none->Q (.ref p) (upd H1 p (.lst xs))
theorem cC {x1} (h:PA X es t):PE X (.Tuple es x1 pos) (tTup t):=by
 intro pins s σ H Q I hq
 refine wpAny_Tuple_spliced (thn (h pins s σ H _ I hq) fun us s1 ⟨xs,H1,I1,r,z,q⟩=>⟨by rw [<- r.length];exact z,?_⟩)
 have hf:H1 s1.heap.objs.size=none:=I1.hok.fresh (Nat.le_refl _)
 refine⟨.ref s1.heap.objs.size,upd H1 s1.heap.objs.size (.tup xs),I1.laid (t':=s1.toks) (fun b u e=>Heap.get?_push_of_some _ e) (Nat.le_refl _) ?_,rfl,q _ hf⟩
 exact⟨z,us,r,⟨_,Heap.get?_push_size _ rfl,rfl,_,rfl⟩⟩
theorem cN (h:PA X es t):PE X (.List es pos) (tLst t):=by
 intro pins s σ H Q I hq
 refine wpAny_List_spliced (thn (h pins s σ H _ I hq) fun us s1 ⟨xs,H1,I1,r,z,q⟩=>⟨by rw [<- r.length];exact z,?_⟩)
 have hf:H1 s1.heap.objs.size=none:=I1.hok.fresh (Nat.le_refl _)
 refine⟨.ref s1.heap.objs.size,upd H1 s1.heap.objs.size (.lst xs),I1.laid (t':=s1.toks) (fun b u e=>Heap.get?_push_of_some _ e) (Nat.le_refl _) ?_,rfl,q _ hf⟩
 exact⟨z,us,0,r,Heap.get?_push_size _ rfl⟩
end
abbrev Sp:=List V->Hp->VK->XK->Prop
abbrev CXT:=List Env->Hp->Shared->XK->Value->Shared->Prop
structure rP (P:Program) (w:World) (K:PySem.W.Frag) (mg:Str->Option Value) (base:Heap) (A:Around) (outer:List Env) (s:Shared) (H:Hp):Prop where
 frames:A.frames=some outer
 mod:Mod K mg base
 bs:∀b o,base.get? b=some o->s.heap.get? b=some o/\H b=none
 bsz:base.objs.size<=s.heap.objs.size
 funs:s.heap.FunFrames base outer
 frf:∀b ∈ frs outer,H b=none
 hok:HOk P w H s.heap
 bare:AllBare s.gens
def CE (outer:List Env) (P:Program) (w:World) (H:Hp) (s:Shared) (Q:VK) (u:Value) (s':Shared):Prop:=
 ∃v H',s'.os=s.os/\AllBare s'.gens/\Un (frs outer) [] H H' s.heap s'.heap/\HOk P w H' s'.heap/\cK v u/\Q v H'
def CR (CX:CXT) (outer:List Env) (P:Program) (w:World) (H:Hp) (s:Shared) (Q:VK) (E:XK) (r:Result) (s':Shared):Prop:=
 match r with
 | .ok (.ret u)=>CE outer P w H s Q u s'
 | .ok _=>False
 | .error e=>CX outer H s E e s'
structure aJ (P:Program) (w:World) (K:PySem.W.Frag) (mg:Str->Option Value) (base:Heap) (CX:CXT) (k:Nat) (f:Addr) (fd:FuncData) (ps:List Str) (sp:Sp):Prop where
 len:∀vs H Q E,sp vs H Q E->vs.length=ps.length
 run:∀(A:Around) (outer:List Env) (s:Shared) (H:Hp) (args:Args) (us:List Value) (vs:List V) (Q:VK) (E:XK),Room k A->rP P w K mg base A outer s H->BindsTo s fd args (ps.zip us)->cE vs us->sp vs H Q E ->
  codeAny (model P w) A (.call (.ref f) args) (CR CX outer P w H s Q E) s
theorem aJ.mono {P:Program} {w:World} {K:PySem.W.Frag} {mg:Str->Option Value} {base:Heap} {CX:CXT} {j k:Nat} {f:Addr} {fd:FuncData} {ps:List Str} {sp:Sp} (F:aJ P w K mg base CX j f fd ps sp) (h:j<=k):
  aJ P w K mg base CX k f fd ps sp:=⟨F.len,fun A outer s H args us vs Q E hr=>F.run A outer s H args us vs Q E (hr.mono h)⟩
theorem aJ.imp {P:Program} {w:World} {K:PySem.W.Frag} {mg:Str->Option Value} {base:Heap} {CX:CXT} {k:Nat} {f:Addr} {fd:FuncData} {ps:List Str} {sp sp':Sp} (F:aJ P w K mg base CX k f fd ps sp)
  (h:∀vs H Q E,sp' vs H Q E->sp vs H Q E):aJ P w K mg base CX k f fd ps sp':=
 ⟨fun vs H Q E q=>F.len vs H Q E (h _ _ _ _ q),fun A outer s H args us vs Q E hr he hb hv hs=>F.run A outer s H args us vs Q E hr he hb hv (h _ _ _ _ hs)⟩
theorem rP.make {P:Program} {w:World} {K:PySem.W.Frag} {mg:Str->Option Value} {base:Heap} {A:Around} {outer:List Env} {s:Shared} {H:Hp} (e:rP P w K mg base A outer s H) (C:Addr) (us:List Value) (kw:List (Str × Value)):
  rP P w K mg base (A.under (.builtin "type.__call__" ⟨.ref C::us,kw⟩)) outer s H:=⟨by first|exact e.frames|(simpa [Around.under,Code.envs,Code.isFrame,pushEnvs] using e.frames),e.mod,e.bs,e.bsz,e.funs,e.frf,e.hok,e.bare⟩
section
variable {X:Cx} {pins:List (Addr × Obj)} {σ:St} {H:Hp} {s s':Shared}
theorem Inv.env0 (I:Inv X pins σ H s):rP X.prog X.w X.K X.mg X.base X.A X.stack s H:=
 ⟨I.ok.frames,I.ok.mod,I.bs,Nat.le_trans I.ok.bsz I.sz,I.stack,I.stkFree,I.hok,I.bare⟩
theorem Inv.after {Q:VK} {u:Value} (I:Inv X pins σ H s) (h:CE X.stack X.prog X.w H s Q u s'):EP X pins σ Q u s':=by
 obtain⟨v,H',os,bare,un,hok,r,q⟩:=h
 obtain⟨hh,g,d,t,os'⟩:=s'
 obtain rfl:os'=s.os:=os
 exact⟨v,H',I.call (h':=hh) (g':=g) (d':=d) (t':=t) (ch:=[]) un hok bare (fun b z=>absurd z (by simp)),r,q⟩
end
def vM (sp:Sp) (dvs:List V) (E:XK) (t:TA):TE:=fun σ H Q=>t σ H fun vs H1=>sp (vs++dvs) H1 Q E
def tMeth (C:Addr) (m:Str) (sp:Sp) (dvs:List V) (E:XK) (ta:TE) (t:TA):TE:=fun σ H Q=>ta σ H fun x H1=>∃a dx fs,x=.ref a/\H1 a=some (.ins C dx fs)/\fs.lookup m=none /\
 t σ H1 fun vs H2=>sp (x::(vs++dvs)) H2 Q E
def tMake (C:Addr) (sp:Sp) (dvs:List V) (E:XK) (t:TA):TE:=fun σ H Q=>t σ H fun vs H1=>∀x dx,H1 x=none->H1 dx=none->dx≠x ->
 sp (.ref x::(vs++dvs)) (upd (upd H1 dx (.own x)) x (.ins C dx [])) (fun v H2=>v=.non/\Q (.ref x) H2) E
def aO (K:PySem.W.Frag) (fd:FuncData) (ps:List Str) (ds:List Value):Prop:=
 ∀(s:Shared) (us:List Value),K.In s.heap->(us++ds).length=ps.length->BindsTo s fd ⟨us,[]⟩ (ps.zip (us++ds))
theorem aO.all {K:PySem.W.Frag} {fd:FuncData} {ps:List Str} (h:∀us:List Value,us.length=ps.length->bindArgs fd ⟨us,[]⟩=pure (ps.zip us)):aO K fd ps []:=fun s us _ hl=>by
 rw [List.append_nil] at hl ⊢
 exact .of_eq (h us hl)
def iQ (CX:CXT) (X:Cx) (E:XK):Prop:=∀(pins:List (Addr × Obj)) (σ:St) (H:Hp) (s:Shared) (e:Value) (s':Shared),Inv X pins σ H s->CX X.stack H s E e s'->X.xe e s'
section
variable {X:Cx} {CX:CXT} {k:Nat} {f C:Addr} {fd:FuncData} {ps:List Str} {sp:Sp} {dvs:List V} {ds:List Value} {E:XK} {x m:Str} {p pos apos:Pos} {e o:Expr} {es:List Expr} {ta:TE} {t:TA}
theorem yX {pins:List (Addr × Obj)} {σ:St} {H:Hp} {s:Shared} {Q:VK} {us:List Value} {vs:List V} (F:aJ X.prog X.w X.K X.mg X.base CX k f fd ps sp) (hr:Room k X.A) (hb:aO X.K fd ps ds) (hd:cE dvs ds) (hx:iQ CX X E)
  (I:Inv X pins σ H s) (r:cE vs us) (h:sp (vs++dvs) H Q E):wpAny (model X.prog X.w) X.A (call (.ref f) us) (EP X pins σ Q) X.xe s:=by
 have r2:cE (vs++dvs) (us++ds):=r.append hd
 have hl:(us++ds).length=ps.length:=by rw [<- r2.length];exact F.len _ _ _ _ h
 refine wpAny_call (codeAny_mono (F.run X.A X.stack s H ⟨us,[]⟩ (us++ds) (vs++dvs) Q E hr I.env0 (hb s us I.kIn hl) r2 h) fun r s' hq=>?_)
 cases r with
 | error e=>exact hx pins σ H s e s' I hq
 | ok fl=>
  cases fl with
  | ret u=>exact I.after hq
  | next=>exact False.elim hq
  | brk=>exact False.elim hq
  | cont=>exact False.elim hq
theorem aL (F:aJ X.prog X.w X.K X.mg X.base CX k f fd ps sp) (hr:Room k X.A) (hg:Gl X x) (hm:X.mg x=some (.ref f)) (hk:PySem.W.keepIn X.K (.ref f)=true) (hb:aO X.K fd ps ds) (hd:cE dvs ds) (hx:iQ CX X E)
  (ha:PA X (e::es) t) (hdb:(x == ("__debug__":Str))=false:=by decide) (he:starEach (e::es) X.env=(false,eval e X.env)::starEach es X.env:=by rfl) (hpl:(backTo pos (starEach es X.env)).any (·.1)=false:=by rfl):
  PE X (.Call (.Name x p) (e::es) [] pos) (vM sp dvs E t):=by
 intro pins s σ H Q I h
 refine wpAny_Call_Name_kw (gP I hg hm ?_ hdb)
 refine PySem.W.callWith_K (h₀:=X.base) I.ok.mod.kin hk (thn (ha pins s σ H _ I h) fun us s1 ⟨vs,H1,I1,r,q⟩=>⟨I1.kIn,?_⟩) he hpl
 exact yX F hr hb hd hx I1 r q
theorem cU {pl:Sem Bool} (he:PE X o ta) (c:Cls X.K C) (hm:dE X.K C m f) (F:aJ X.prog X.w X.K X.mg X.base CX k f fd ps sp) (hr:Room k X.A) (hb:aO X.K fd ps ds) (hd:cE dvs ds) (hx:iQ CX X E) (ha:PA X (e::es) t)
  (hst:starEach (e::es) X.env=(false,eval e X.env)::starEach es X.env:=by rfl) (hpl:(backTo pos (starEach es X.env)).any (·.1)=false:=by rfl)
  (ht:eval (.Call (.Attribute o m apos) (e::es) [] pos) X.env=(do
   let ov <- eval o X.env
   standAt apos.atName
   let (f,first) <- holding [ov] (getMethod ov m pl)
   callWith pos f first (backTo pos (starEach (e::es) X.env)) (backToKw pos (keywordEach [] X.env))):=by rfl):
  PE X (.Call (.Attribute o m apos) (e::es) [] pos) (tMeth C m sp dvs E ta t):=by
 intro pins s σ H Q I h
 refine PySem.W.methodCall_KW (pl:=pl) (thn (he s σ H _ I h) fun u s1 ⟨x,H1,I1,rx,a,dx,fs,ex,ea,l,q⟩=>?_) ht
 subst ex
 obtain rfl:u=Value.ref a:=rx
 refine qZ I1 ea c hm l ?_
 refine PySem.W.callWith_K (first:=[.ref a]) (h₀:=X.base) I.ok.mod.kin hm.kp (thn (ha pins s1 σ H1 _ I1 q) fun us s2 ⟨vs,H2,I2,r,q2⟩=>⟨I2.kIn,?_⟩) hst hpl
 exact yX (us:=.ref a::us) (vs:=.ref a::vs) F hr hb hd hx I2 (.cons rfl r) q2
theorem cM {pl:Sem Bool} (he:PE X o ta) (c:Cls X.K C) (hm:dE X.K C m f) (F:aJ X.prog X.w X.K X.mg X.base CX k f fd ps sp) (hr:Room k X.A) (hb:aO X.K fd ps ds) (hd:cE dvs ds) (hx:iQ CX X E)
  (ht:eval (.Call (.Attribute o m apos) [] [] pos) X.env=(do
   let ov <- eval o X.env
   standAt apos.atName
   let (f,first) <- holding [ov] (getMethod ov m pl)
   callWith pos f first (backTo pos (starEach [] X.env)) (backToKw pos (keywordEach [] X.env))):=by rfl):
  PE X (.Call (.Attribute o m apos) [] [] pos) (tMeth C m sp dvs E ta oH):=by
 intro pins s σ H Q I h
 refine PySem.W.methodCall_KW (pl:=pl) (thn (he s σ H _ I h) fun u s1 ⟨x,H1,I1,rx,a,dx,fs,ex,ea,l,q⟩=>?_) ht
 subst ex
 obtain rfl:u=Value.ref a:=rx
 refine qZ I1 ea c hm l ?_
 exact PySem.W.callWith_K0 (first:=[.ref a]) I1.kIn hm.kp (yX (us:=[.ref a]) (vs:=[.ref a]) F hr hb hd hx I1 (.cons rfl .nil) q)
structure Mk (K:PySem.W.Frag) (C f:Addr):Prop where
 makes:PySem.W.makesIn K C=true
 init:PySem.W.findIn K (.ref C) "__init__"=some (some (.ref f))
 fn:PySem.W.isFn K (.ref f)=true
 kp:PySem.W.keepIn K (.ref C)=true
theorem AeK {pins:List (Addr × Obj)} {σ:St} {H:Hp} {s:Shared} {Q:VK} {us:List Value} {vs:List V} (M:Mk X.K C f) (F:aJ X.prog X.w X.K X.mg X.base CX k f fd ps sp) (hr:Room (k+1) X.A) (hb:aO X.K fd ps ds) (hd:cE dvs ds)
  (hx:iQ CX X E) (I:Inv X pins σ H s) (r:cE vs us)
  (h:∀x dx,H x=none->H dx=none->dx≠x->sp (.ref x::(vs++dvs)) (upd (upd H dx (.own x)) x (.ins C dx [])) (fun v H2=>v=.non/\Q (.ref x) H2) E):
  wpAny (model X.prog X.w) X.A (call (.ref C) us) (EP X pins σ Q) X.xe s:=by
 have hq:=h (s.heap.objs.size+1) s.heap.objs.size (I.hok.fresh (Nat.le_succ _)) (I.hok.fresh (Nat.le_refl _)) (Nat.ne_of_lt (Nat.lt_succ_self _))
 have I2:=Inv.made (C:=C) I
 have r2:cE (V.ref (s.heap.objs.size+1)::(vs++dvs)) (Value.ref (s.heap.objs.size+1)::(us++ds)):=.cons rfl (r.append hd)
 have hl:(Value.ref (s.heap.objs.size+1)::us++ds).length=ps.length:=by
  have e:=r2.length
  rw [F.len _ _ _ _ hq] at e
  exact e.symm
 refine wpAny_call (AgD (f:=f) I.kIn M.makes M.init (beq_iff_eq.mp M.fn) (codeAny_mono (F.run _ X.stack _ _ ⟨Value.ref (s.heap.objs.size+1)::us,[]⟩ (Value.ref (s.heap.objs.size+1)::(us++ds)) _ _ E (hr.make C us [])
  (I2.env0.make C us []) (hb _ (Value.ref (s.heap.objs.size+1)::us) I2.kIn hl) r2 hq) fun r s' hq'=>?_))
 cases r with
 | error e=>exact hx pins σ _ _ e s' I2 hq'
 | ok fl=>
  cases fl with
  | ret u=>
   obtain⟨v,H',I3,rv,ev,q3⟩:=I2.after hq'
   subst ev
   exact⟨rv,⟨V.ref (s.heap.objs.size+1),H',I3,rfl,q3⟩⟩
  | next=>exact False.elim hq'
  | brk=>exact False.elim hq'
  | cont=>exact False.elim hq'
theorem uS (M:Mk X.K C f) (F:aJ X.prog X.w X.K X.mg X.base CX k f fd ps sp) (hr:Room (k+1) X.A) (hg:Gl X x) (hm:X.mg x=some (.ref C)) (hb:aO X.K fd ps ds) (hd:cE dvs ds) (hx:iQ CX X E)
  (ha:PA X (e::es) t) (hdb:(x == ("__debug__":Str))=false:=by decide) (he:starEach (e::es) X.env=(false,eval e X.env)::starEach es X.env:=by rfl) (hpl:(backTo pos (starEach es X.env)).any (·.1)=false:=by rfl):
  PE X (.Call (.Name x p) (e::es) [] pos) (tMake C sp dvs E t):=by
 intro pins s σ H Q I h
 refine wpAny_Call_Name_kw (gP I hg hm ?_ hdb)
 refine PySem.W.callWith_K (h₀:=X.base) I.ok.mod.kin M.kp (thn (ha pins s σ H _ I h) fun us s1 ⟨vs,H1,I1,r,q⟩=>⟨I1.kIn,?_⟩) he hpl
 exact AeK M F hr hb hd hx I1 r q
end
def PK (X:Cx) (kws:List Keyword) (t:TA):Prop:=
 ∀(pos:Pos) (pins:List (Addr × Obj)) (s:Shared) (σ:St) (H:Hp) (Q:List V->Hp->Prop),Inv X pins σ H s->t σ H Q->wpAny (model X.prog X.w) X.A (evalAll ((backToKw pos (keywordEach kws X.env)).map (·.2))) (AP X pins σ Q) X.xe s
section
variable {X:Cx} {CX:CXT} {k:Nat} {f C:Addr} {fd:FuncData} {ps ks:List Str} {sp:Sp} {E:XK} {x m:Str} {p pos apos kpos:Pos} {e o:Expr} {es:List Expr} {kws:List Keyword} {te ta:TE} {t tk:TA} {nm:Option Str}
theorem uO:PK X [] oH:=fun _ _ _ _ H Q I h=>wpAny_evalAll_nil ⟨[],H,I,.nil,h⟩
theorem oW (ha:PE X e te) (hr:PK X kws t):PK X (⟨nm,e,kpos⟩::kws) (hG te t):=by
 intro pos pins s σ H Q I h
 show wpAny _ _ (evalAll ((do let v <- eval e X.env;standAt pos;pure v)::(backToKw pos (keywordEach kws X.env)).map (·.2))) _ _ s
 refine wpAny_evalAll_cons (wpAny_bind (thn (ha s σ H _ I h) fun u s1 ⟨x,H1,I1,r1,q1⟩=>wpAny_bind (wpAny_standAt (wpAny_pure ?_))))
 exact thn (hr pos pins s1 σ H1 _ I1 q1) fun us s2 ⟨xs,H2,I2,r2,q2⟩=>⟨x::xs,H2,I2,.cons r1 r2,q2⟩
variable {g:List Value->List Value->List Value} {gV:List V->List V->List V}
end
structure aP (N P:List Str) (sc:Scope):Prop where
 kind:sc.kind=.function
 co:sc.isCoroutine=false
 gen:sc.isGenerator=false
 nd:N.Nodup
 pre:N.take P.length=P
 par:∀x ∈ P,sc.names.lookup x=some .local\/sc.names.lookup x=some .cell
 nofree:∀y ∈ sc.names,y.2≠.free
theorem sZ {kindOf:Str->Option NameKind} {x:Str}:∀{binds:List (Str × Value)} {m:Str->Option Value},(∀v,(x,v) ∉ binds)->bindL kindOf binds m x=m x
 | [],_,_=>rfl
 | (n,v)::r,m,h=>by
  unfold bindL
  rw [sZ fun w hw=>h w (List.mem_cons_of_mem _ hw)]
  split
  ·have:x≠n:=by rintro rfl;exact h v List.mem_cons_self
   simp [this]
  ·rfl
theorem tE {kindOf:Str->Option NameKind} {x:Str}:∀{binds:List (Str × Value)} {m:Str->Option Value},(∀v,(x,v) ∉ binds)->bindC kindOf binds m x=m x
 | [],_,_=>rfl
 | (n,v)::r,m,h=>by
  unfold bindC
  rw [tE fun w hw=>h w (List.mem_cons_of_mem _ hw)]
  split
  ·rfl
  ·have:x≠n:=by rintro rfl;exact h v List.mem_cons_self
   simp [this]
theorem tD {kindOf:Str->Option NameKind} {x:Str} {v:Value}:∀{P:List Str} {vs:List Value} {i:Nat} {m:Str->Option Value},P.Nodup->P[i]?=some x->vs[i]?=some v->kindOf x=some .local ->
  bindL kindOf (P.zip vs) m x=some v
 | [],_,_,_,_,h,_,_=>by simp at h
 | _::_,[],_,_,_,_,h,_=>by simp at h
 | p::P,w::vs,0,m,nd,h1,h2,hk=>by
  simp at h1 h2;subst h1;subst h2
  show bindL kindOf ((p,w)::P.zip vs) m p=_
  unfold bindL
  rw [sZ fun v hv=>(List.nodup_cons.mp nd).1 (List.of_mem_zip hv).1,if_pos hk]
  simp
 | p::P,w::vs,i+1,m,nd,h1,h2,hk=>by
  show bindL kindOf ((p,w)::P.zip vs) m x=_
  unfold bindL
  exact tD (i:=i) (List.nodup_cons.mp nd).2 (by simpa using h1) (by simpa using h2) hk
theorem tF {kindOf:Str->Option NameKind} {x:Str} {v:Value}:∀{P:List Str} {vs:List Value} {i:Nat} {m:Str->Option Value},P.Nodup->P[i]?=some x->vs[i]?=some v->kindOf x≠some .local ->
  bindC kindOf (P.zip vs) m x=some v
 | [],_,_,_,_,h,_,_=>by simp at h
 | _::_,[],_,_,_,_,h,_=>by simp at h
 | p::P,w::vs,0,m,nd,h1,h2,hk=>by
  simp at h1 h2;subst h1;subst h2
  show bindC kindOf ((p,w)::P.zip vs) m p=_
  unfold bindC
  rw [tE fun v hv=>(List.nodup_cons.mp nd).1 (List.of_mem_zip hv).1,if_neg hk]
  simp
 | p::P,w::vs,i+1,m,nd,h1,h2,hk=>by
  show bindC kindOf ((p,w)::P.zip vs) m x=_
  unfold bindC
  exact tF (i:=i) (List.nodup_cons.mp nd).2 (by simpa using h1) (by simpa using h2) hk
def dI (N:List Str) (vs:List V):St:=vs.map some++List.replicate (N.length-vs.length) none
def jV (CX:CXT) (P:Program) (w:World) (K:PySem.W.Frag) (mg:Str->Option Value) (base:Heap) (N:List Str) (qual:Str) (scope:Scope) (f:Addr) (cd:Value) (A:Around) (outer:List Env) (s:Shared) (H:Hp) (E:XK):Cx where
 prog:=P
 w:=w
 K:=K
 mg:=mg
 base:=base
 A:=A.deeper (envOfC qual scope s.heap.objs.size f cd)
 N:=N
 s₀:=s
 H₀:=H
 env:=envOfC qual scope s.heap.objs.size f cd
 outer:=outer
 stack:=envOfC qual scope s.heap.objs.size f cd::outer
 ex:=[]
 calm:=true
 fn:=fun _=>true
 pn:=[]
 xe:=fun e s'=>wpAny (model P w) (A.deeper (envOfC qual scope s.heap.objs.size f cd)) (leaving (envOfC qual scope s.heap.objs.size f cd) e) (fun _ s''=>CX outer H s E e s'') (fun e' s''=>CX outer H s E e' s'') s'
theorem xD {sc:Scope} {n:Nat} {x:Str} (h:sc.names.lookup x=some .cell):∃c,(cellsFrom n sc.names []).lookup x=some c:=by
 have q:=PySem.W.cellsFrom_some sc.names n [] (.inl h)
 exact Option.isSome_iff_exists.mp q
theorem nQ {CX:CXT} {P:Program} {w:World} {K:PySem.W.Frag} {mg:Str->Option Value} {base:Heap} {N ps:List Str} {qual:Str} {scope:Scope} {f:Addr} {cd:Value} {A:Around} {outer:List Env} {s s1:Shared} {H:Hp} {E:XK} {us:List Value} {vs:List V}
  (S:aP N ps scope) (hd:A.handled=none) (e0:rP P w K mg base A outer s H) (hl:vs.length=ps.length) (r:cE vs us)
  (x:InCallC s s.heap.objs.size (bindL (envOfC qual scope s.heap.objs.size f cd).kindOf (ps.zip us) fun _=>none) (cellsFrom (s.heap.objs.size+1) scope.names []) (bindC (envOfC qual scope s.heap.objs.size f cd).kindOf (ps.zip us) fun _=>none) s1):
  Inv (jV CX P w K mg base N qual scope f cd A outer s H E) [] (dI N vs) H s1:=by
 have hpl:ps.length<=N.length:=by have:=congrArg List.length S.pre;rw [List.length_take] at this;omega
 obtain⟨h1,tk,rfl,hk⟩:=x.done
 have noA:∀b:Addr,b ∉ (jV CX P w K mg base N qual scope f cd A outer s H E).ex:=fun b z=>absurd (show b ∈ ([]:List Addr) from z) (by simp)
 refine⟨⟨e0.mod,S.kind,rfl,rfl,Nat.le_refl _,fun y z c h1 h2=>?_,fun y hy=>?_,fun y c _ h=>?_,fun _=>hd,Around.frames_deeper e0.frames,.inr ⟨rfl,rfl⟩,fun b z=>absurd z (noA b),e0.bs,e0.bsz,fun b _ _=>noA b,fun b z=>absurd z (noA b),e0.funs,e0.frf⟩,
  rfl,e0.bare,Un.kept hk,⟨_,x.toInCall.ns,fun i y v h1 h2 h3=>?_⟩,fun y c h=>⟨_,x.cell y c h⟩,e0.hok.fresh (Nat.le_refl _),fun y c h=>?_,fun p hp=>absurd (show p ∈ ([]:List (Addr × Obj)) from hp) (by simp),e0.hok.kept hk,?_⟩
 ·exact name_of_addr x.apart (PySem.mem_of_lookup h1) (PySem.mem_of_lookup h2)
 ·have hy:scope.names.lookup y=some .cell\/scope.names.lookup y=some .free:=hy
  rcases hy with hy|hy
  ·exact xD hy
  ·exact absurd rfl (S.nofree _ (PySem.mem_of_lookup hy))
 ·exact Nat.le_of_lt (x.above y c (PySem.mem_of_lookup h))
 ·have hi:i<vs.length:=by
   unfold dI at h2
   by_cases hi:i<vs.length
   ·exact hi
   ·rw [List.getElem?_append_right (by simpa using hi)] at h2
    rw [List.getElem?_replicate] at h2
    split at h2 <;> cases h2
  have ha:vs[i]?=some v:=by
   unfold dI at h2
   rw [List.getElem?_append_left (by simpa using hi),List.getElem?_map] at h2
   cases e:vs[i]? with
   | none=>rw [e] at h2;cases h2
   | some a=>rw [e] at h2;cases h2;rfl
  obtain⟨u,hu,rv⟩:=r.get ha
  have hp:ps[i]?=some y:=by
   rw [<- S.pre,List.getElem?_take_of_lt (by omega)];exact h1
  have ndP:ps.Nodup:=by rw [<- S.pre];exact S.nd.sublist (List.take_sublist _ _)
  refine⟨u,rv,?_⟩
  rcases S.par y (List.mem_of_getElem? hp) with k|k
  ·exact .inl ⟨k,tD ndP hp hu k⟩
  ·obtain⟨c,e⟩:=xD (n:=s.heap.objs.size+1) k
   refine .inr ⟨.inl k,c,e,?_⟩
   have q:=x.cell y c e
   rw [tF ndP hp hu (by show scope.names.lookup y≠_;rw [k];decide)] at q
   exact q
 ·exact e0.hok.fresh (Nat.le_of_lt (x.above y c (PySem.mem_of_lookup h)))
 ·unfold dI
  show _=N.length
  rw [List.length_append,List.length_map,List.length_replicate]
  omega
theorem fn_of {CX:CXT} {P:Program} {w:World} {K:PySem.W.Frag} {mg:Str->Option Value} {base:Heap} {k:Nat} {f:Addr} {name qual:Str} {params:Arguments} {body:List Stmt} {scope:Scope} {dV kV doc pm cdv ct oc:Value} {an od:Option Addr}
  {osl:Array (Option Value)} {N ps:List Str} {sp:Sp} (lk:K.lookup f=some ⟨oc,od,.func (PySem.W.fnOf name qual params body scope dV kV doc pm an cdv ct),osl⟩) (hcd:PySem.W.codeIn K cdv qual=true) (S:aP N ps scope)
  (len:∀vs H Q E,sp vs H Q E->vs.length=ps.length)
  (hbody:∀(A:Around) (outer:List Env) (s:Shared) (H:Hp) (vs:List V) (Q:VK) (E:XK),Room k (A.deeper (envOfC qual scope s.heap.objs.size f cdv))->sp vs H Q E ->
   ∃t,PSs (jV CX P w K mg base N qual scope f cdv A outer s H E) body t/\t { nx:=fun _ H'=>Q .non H',rt:=Q } (dI N vs) H):
  aJ P w K mg base CX (k+1) f (PySem.W.fnOf name qual params body scope dV kV doc pm an cdv ct) ps sp:=by
 refine⟨len,fun A outer s H args us vs Q E hr e0 hb r hsp=>?_⟩
 have hl:=len _ _ _ _ hsp
 have KX:K.In s.heap:=e0.mod.kin.keeps fun b o e=>(e0.bs b o e).1
 have lim:s.heap.NoLimit:=e0.mod.nolimit.keeps fun b o e=>(e0.bs b o e).1
 have hkind:∀y ∈ ps.zip us,scope.names.lookup y.1=some .local\/(scope.names.lookup y.1=some .cell/\((cellsFrom (s.heap.objs.size+1) scope.names []).lookup y.1).isSome=true):=fun⟨n,v⟩ hy=>by
  rcases S.par n (List.of_mem_zip hy).1 with q|q
  ·exact .inl q
  ·exact .inr ⟨q,PySem.W.cellsFrom_some _ _ _ (.inl q)⟩
 refine codeAny_call_function hr.depth (KX _ _ lk) rfl S.co S.gen rfl (PySem.W.codeRec_of KX hcd) (hb _ _ _ _ ?_)
 refine wpAny_newFunctionEnv_cells S.kind hkind fun env he s1 x=>?_
 subst he
 refine⟨lim.keeps x.toInCall.keep,codeAny_func ?_⟩
 obtain⟨t,ht,hq⟩:=hbody A outer s H vs Q E (hr.deeper _) hsp
 have I:Inv (jV CX P w K mg base N qual scope f cdv A outer s H E) [] (dI N vs) H s1:=nQ S hr.hd e0 hl r x
 refine wpAny_mono (ht s1 (dI N vs) H _ I hq) (fun fl s' hs=>?_) fun e s' hs=>hs
 have fin:∀{σ':St} {H':Hp} {v:V} {u:Value},Inv (jV CX P w K mg base N qual scope f cdv A outer s H E) [] σ' H' s'->cK v u->Q v H'->CE outer P w H s Q u s':=
  fun {σ' H' v u} J rv q=>⟨v,H',J.os,J.bare,J.base,J.hok,rv,q⟩
 cases fl with
 | ret u=>
  obtain⟨v,σ',H',J,rv,q⟩:=hs
  exact fin J rv q
 | next=>
  obtain⟨σ',H',J,q⟩:=hs
  exact fin (v:=V.non) (u:=Value.none) J rfl q
 | brk=>
  obtain⟨_,_,_,q⟩:=hs
  exact False.elim q
 | cont=>
  obtain⟨_,_,_,q⟩:=hs
  exact False.elim q
section
variable {X:Cx} {x:Str} {p pos:Pos} {e:Expr} {es:List Expr} {t:TA} {id T:String} {r:List V->Hp->VK->Prop}
def tCB (r:List V->Hp->VK->Prop) (t:TA):TE:=fun σ H Q=>t σ H fun vs H1=>r vs H1 Q
theorem aS (hc:iS X (.builtin id) r) (hg:Gl X x) (hm:X.mg x=none) (hv:bootBuiltins x=some (.builtin id)) (ha:PA X (e::es) t) (hn:x≠"__name__":=by decide) (hdb:(x == ("__debug__":Str))=false:=by decide)
  (he:starEach (e::es) X.env=(false,eval e X.env)::starEach es X.env:=by rfl) (hpl:(backTo pos (starEach es X.env)).any (·.1)=false:=by rfl):PE X (.Call (.Name x p) (e::es) [] pos) (tCB r t):=by
 intro pins s σ H Q I h
 refine wpAny_Call_Name_kw (iN I hg hm hv ?_ hn hdb)
 exact PyProof.Rows.callWith_builtin1 (thn (ha pins s σ H _ I h) fun us s1 ⟨vs,H1,I1,r1,q1⟩=>hc pins s1 σ H1 vs us Q I1 r1 q1) he hpl
theorem dU (hc:iS X (.type T) r) (hg:Gl X x) (hm:X.mg x=none) (hv:bootBuiltins x=some (.type T)) (ha:PA X (e::es) t) (hn:x≠"__name__":=by decide) (hdb:(x == ("__debug__":Str))=false:=by decide)
  (he:starEach (e::es) X.env=(false,eval e X.env)::starEach es X.env:=by rfl) (hpl:(backTo pos (starEach es X.env)).any (·.1)=false:=by rfl):PE X (.Call (.Name x p) (e::es) [] pos) (tCB r t):=by
 intro pins s σ H Q I h
 refine wpAny_Call_Name_kw (iN I hg hm hv ?_ hn hdb)
 exact PyProof.Rows.callWith_type1 (thn (ha pins s σ H _ I h) fun us s1 ⟨vs,H1,I1,r1,q1⟩=>hc pins s1 σ H1 vs us Q I1 r1 q1) he hpl
end
end L2
namespace HT
open PySem PyProof.Rows
def lexLt:List Int->List Int->Bool
 | [],[]=>false
 | [],_::_=>true
 | _::_,[]=>false
 | x::xs,y::ys=>if x=y then lexLt xs ys else decide (x<y)
theorem lexLt_cons (x y:Int) (xs ys:List Int):lexLt (x::xs) (y::ys)=if x=y then lexLt xs ys else decide (x<y):=rfl
theorem lexLt_nil_nil:lexLt [] []=false:=rfl
theorem qU (y:Int) (ys:List Int):lexLt [] (y::ys)=true:=rfl
theorem qV (x:Int) (xs:List Int):lexLt (x::xs) []=false:=rfl
theorem AgY (A:Around) (s:Shared) (a:Int) (t:Tok) (c:Int) (u:Tok):∃e,SeqAt.EqAt A s (.int a t) (.int c u) e/\(e=true↔a=c):=
 ⟨(a == c),SeqAt.EqAt.int_int a t c u,by simp⟩
theorem AeP (A:Around) (s:Shared) (a:Int) (t:Tok) (c:Int) (u:Tok) (prog:Program) (w:World) (E:Value->Shared->Prop) (Q:Value->Shared->Prop) (h:Q (.bool (decide (a<c))) s):
  wpAny (model prog w) A (richCompare .Lt (.int a t) (.int c u)) Q E s:=
 (PyProof.Rows.lt_int h:wpAny (model prog w) A (compareOp .Lt (.int a t) (.int c u)) Q E s)
section
open PySem.SeqAt
open PySem.AutoSeq1 (wpAny_loadPart')
open PySem.MeetsSeq PySem.MeetsSeq2 PySem.MeetsSeq3
theorem rR (l b:Addr) (items items2:Array Value) (n n2:Nat) (dd dd2:Option Addr) (sl sl2:Array (Option Value)) (ns ms:List Int) (hi:IntsAre items.toList ns) (hj:IntsAre items2.toList ms):
  Meets (Builtin.«tuple.__lt__» ⟨[.ref l,.ref b],[]⟩)
   (fun _ R s=>s.heap.get? l=some { cls:=.type "tuple",dict:=dd,data:=.seq items n,slots:=sl }/\s.heap.get? b=some { cls:=.type "tuple",dict:=dd2,data:=.seq items2 n2,slots:=sl2 } /\
    R (.ok (.ret (.bool (lexLt ns ms)))) s):=
 .of_wp fun prog w A R s h=>by
  obtain⟨hp,g,d,tk,os⟩:=s;obtain⟨hl,hb,h⟩:=h
  have f2:=AutoSeq1.sub_tuple_tuple
  have z1:items.size=ns.length:=by rw [<- hi.length];simp
  have z2:items2.size=ms.length:=by rw [<- hj.length];simp
  wp_walk using wpAny_loadPart' hl,wpAny_loadPart' hb,wpAny_forIn_list _ (fun rest b s'=>b.1=none/\s'=⟨hp,g,d,tk,os⟩/\∃(vs ws:List Value) (ns' ms':List Int),rest=vs.zip ws /\
   IntsAre vs ns'/\IntsAre ws ms'/\ns'.length+items2.size=ms'.length+items.size/\R (.ok (.ret (.bool (lexLt ns' ms')))) ⟨hp,g,d,tk,os⟩) _
  case turn=>
   rintro⟨y,x⟩ rest b s' ⟨hb',rfl,vs,ws,ns',ms',hz,hvi,hwi,hlen,hR⟩
   cases hvi with
   | nil=>rw [List.zip_nil_left] at hz;cases hz
   | cons a t hvi'=>
    cases hwi with
    | nil=>rw [List.zip_nil_right] at hz;cases hz
    | cons c u hwi'=>
     rw [List.zip_cons_cons] at hz
     injection hz with hyx hrest
     injection hyx with hy hx
     subst hy hx
     rw [lexLt_cons] at hR
     simp only [List.length_cons] at hlen
     obtain⟨e,he,hiff⟩:=AgY A.in1 ⟨hp,g,d,tk,os⟩ a t c u
     refine wpAny_bind (he prog w _ _ ?_)
     cases e with
     | true=>
      rw [if_pos (hiff.mp rfl)] at hR
      wp_walk
      exact⟨rfl,rfl,_,_,_,_,hrest,hvi',hwi',by omega,hR⟩
     | false=>
      rw [if_neg (fun q=>absurd (hiff.mpr q) Bool.false_ne_true)] at hR
      have hri:=AeP A.in1 ⟨hp,g,d,tk,os⟩ a t c u prog w
      wp_walk using hri
      exact⟨_,rfl,by simpa using hR⟩
  case fin=>
   rintro⟨b1,b2⟩ s' ⟨hb',rfl,vs,ws,ns',ms',hz,hvi,hwi,hlen,hR⟩
   simp only at hb'
   subst hb'
   have hv:lexLt ns' ms'=decide (items.size<items2.size):=by
    cases hvi with
    | nil=>
     cases hwi with
     | nil=>
      simp only [List.length_nil] at hlen
      rw [lexLt_nil_nil]
      exact(decide_eq_false (by omega)).symm
     | cons c u hw=>
      simp only [List.length_nil,List.length_cons] at hlen
      rw [qU]
      exact(decide_eq_true (by omega)).symm
    | cons a t hv=>
     cases hwi with
     | nil=>
      simp only [List.length_nil,List.length_cons] at hlen
      rw [qV]
      exact(decide_eq_false (by omega)).symm
     | cons c u hw=>
      rw [List.zip_cons_cons] at hz
      cases hz
   rw [hv] at hR
   wp_walk
   exact⟨_,rfl,by simpa [Builtin.Tuple.tupleCompareSizes] using hR⟩
  case h=>
   exact⟨rfl,rfl,items.toList,items2.toList,ns,ms,rfl,hi,hj,by omega,h⟩
end
section
variable {prog:Program} {w:World} {A:Around} {E:Value->Shared->Prop} {s:Shared}
theorem lt_tupInts {l b:Addr} {items items2:Array Value} {ns ms:List Int} {Q:Value->Shared->Prop} (hl:IsTup s.heap l items) (hb:IsTup s.heap b items2) (hi:IntsAre items.toList ns) (hj:IntsAre items2.toList ms)
  (hu:A.units<cLine) (h:Q (.bool (lexLt ns ms)) s):wpAny (model prog w) A (compareOp .Lt (.ref l) (.ref b)) Q E s:=by
 obtain⟨⟨cls,dd,data,sl⟩,ho,hc,n,hd⟩:=id hl
 obtain⟨⟨cls2,dd2,data2,sl2⟩,ho2,hc2,n2,hd2⟩:=id hb
 simp only at hc hd hc2 hd2
 subst hc hd hc2 hd2
 exact richCompare_meets_room (op:=.Lt) ⟨_,ho,rfl⟩ ⟨_,ho2,rfl⟩ PySem.F.slot_tuple_lt PySem.F.entry_tuple_lt (PySem.F.args_tuple_lt_2 _ _) (rR l b items items2 n n2 dd dd2 sl sl2 ns ms hi hj)
  ⟨ho,ho2,show Value.bool (lexLt ns ms)≠Value.notImplemented/\Q (.bool (lexLt ns ms)) s from⟨(fun x=>nomatch x),h⟩⟩ hu
theorem cat_tup {t b:Addr} {vs ws:List Value} {Q:Value->Shared->Prop} (ht:IsTup s.heap t vs.toArray) (hb:IsTup s.heap b ws.toArray) (hv:vs≠[])
  (h1:ws=[]->Q (.ref t) s) (h2:ws≠[]->Q (.ref s.heap.objs.size) { s with heap:=s.heap.push { cls:=.type "tuple",data:=.seq (vs++ws).toArray } })
  (hsz:vs.length+ws.length<=sizeLine):wpAny (model prog w) A (binaryOp .Add (.ref t) (.ref b)) Q E s:=by
 obtain⟨⟨cls,dd,data,sl⟩,ho,hc,n,hd⟩:=id ht
 obtain⟨⟨cls2,dd2,data2,sl2⟩,ho2,hc2,n2,hd2⟩:=id hb
 simp only at hc hd hc2 hd2
 subst hc hd hc2 hd2
 have e:vs.toArray++ws.toArray=(vs++ws).toArray:=by simp
 by_cases hw:ws=[]
 ·exact concat_meets ⟨_,ho,rfl⟩ ⟨_,ho2,rfl⟩ noFill_tuple_add seq_tuple_add PySem.F.slot_tuple_add PySem.F.entry_tuple_add (PySem.F.args_tuple_add_2 _ _)
   (tuple_addW1 t b vs.toArray ws.toArray n n2 dd dd2 sl sl2 (by simpa using hv) (by simp [hw])) ⟨ho,ho2,h1 hw⟩
 ·refine concat_meets ⟨_,ho,rfl⟩ ⟨_,ho2,rfl⟩ noFill_tuple_add seq_tuple_add PySem.F.slot_tuple_add PySem.F.entry_tuple_add (PySem.F.args_tuple_add_2 _ _)
   (tuple_addW2 t b vs.toArray ws.toArray n n2 dd dd2 sl sl2 (by simpa using hv) (by simpa using hw) (by rw [List.size_toArray,List.size_toArray];exact hsz)) ⟨ho,ho2,?_⟩
  rw [e]
  exact h2 hw
def sIx (n d:Nat):Option Int->Nat
 | none=>d
 | some v=>if v<0 then(v+(n:Int)).toNat else min v.toNat n
theorem sIx_le (n d:Nat) (hd:d<=n) (o:Option Int):sIx n d o<=n:=by
 cases o with
 | none=>exact hd
 | some v=>
  show (if v<0 then(v+(n:Int)).toNat else min v.toNat n)<=n
  by_cases hv:v<0
  ·rw [if_pos hv];omega
  ·rw [if_neg hv];exact Nat.min_le_right _ _
theorem AbT (v:Int) (n d:Nat):(if v<0 then max (v+(n:Int)) 0 else min v (n:Int))=((sIx n d (some v):Nat):Int):=by
 show (if v<0 then max (v+(n:Int)) 0 else min v (n:Int))=(((if v<0 then(v+(n:Int)).toNat else min v.toNat n):Nat):Int)
 by_cases hv:v<0
 ·simp only [if_pos hv];omega
 ·simp only [if_neg hv];omega
theorem zW (lo hi:Option Int) (n:Nat):Builtin.Slice.sliceAdjust lo hi 1 (n:Int)=(((sIx n 0 lo:Nat):Int),((sIx n n hi:Nat):Int)):=by
 have h1:¬ ((1:Int)<0):=by omega
 unfold Builtin.Slice.sliceAdjust
 simp only [h1,if_false]
 refine Prod.ext ?_ ?_
 ·cases lo with
  | none=>rfl
  | some v=>exact AbT v n 0
 ·cases hi with
  | none=>rfl
  | some v=>exact AbT v n n
theorem yZ (i j:Nat):Builtin.Slice.slicePlaces (i:Int) (j:Int) 1=j-i:=by
 unfold Builtin.Slice.slicePlaces
 have h1:(1:Int) > 0:=by omega
 simp only [h1,if_true,Int.ediv_one]
 split <;> omega
theorem pT {v:Value} {o:Option Int} {Q:Option Int->Shared->Prop} (p:IsPart v o) (h:Q o s):wpAny (model prog w) A (Builtin.Slice.slicePartIndex v) Q E s:=by
 cases p with
 | none=>exact slicePart_none h
 | int i t=>exact slicePart_int h
theorem hV {sl:Addr} {vl vu:Value} {lo hi:Option Int} {n:Nat} {Q:Int × Int × Nat->Shared->Prop} (hs:s.heap.IsSliceOf sl vl vu .none) (pl:IsPart vl lo) (pu:IsPart vu hi)
  (h:Q (((sIx n 0 lo:Nat):Int),1,sIx n n hi-sIx n 0 lo) s):wpAny (model prog w) A (Builtin.Slice.sliceApplied (.ref sl) (pure (n:Int))) Q E s:=by
 obtain⟨os,hos,hcs,hds⟩:=id hs
 unfold Builtin.Slice.sliceApplied Builtin.Slice.sliceFields
 refine wpAny_bind (wpAny_bind (wpAny_field hos hds (x:=vl) rfl (wpAny_bind (wpAny_field hos hds (x:=vu) rfl (wpAny_bind (wpAny_field hos hds (x:=.none) rfl (wpAny_pure ?_)))))))
 refine wpAny_bind (slicePart_none ?_)
 show wpAny _ _ (if ((1:Int) == 0)=true then _ else _) _ _ s
 rw [if_neg (by decide)]
 refine wpAny_bind (pT pl (wpAny_bind (pT pu (wpAny_bind (wpAny_pure ?_)))))
 show wpAny _ _ (match Builtin.Slice.sliceAdjust lo hi 1 (n:Int) with|(lo,hi)=>pure (lo,(1:Int),Builtin.Slice.slicePlaces lo hi 1)) _ _ s
 rw [zW lo hi n]
 show wpAny _ _ (pure (((sIx n 0 lo:Nat):Int),(1:Int),Builtin.Slice.slicePlaces ((sIx n 0 lo:Nat):Int) ((sIx n n hi:Nat):Int) 1)) _ _ s
 rw [yZ]
 exact wpAny_pure h
theorem AeV (xs:Array Value) (i k:Nat):((List.range k).filterMap fun(m:Nat)=>xs[((i:Int)+(m:Int) * 1).toNat]?).toArray=((xs.toList.drop i).take k).toArray:=by
 have e:(fun(m:Nat)=>xs[((i:Int)+(m:Int) * 1).toNat]?)=fun m=>xs[i+m]?:=by
  funext m
  have:((i:Int)+(m:Int) * 1).toNat=i+m:=by omega
  rw [this]
 rw [e]
 have:=pick_run xs i k
 rw [List.filterMap_map] at this
 have e2:((fun x=>xs[x]?) ∘ fun x=>i+x)=fun m=>xs[i+m]?:=rfl
 rw [e2] at this
 rw [this]
theorem getItem_tuple_cut {t sl:Addr} {items:Array Value} {vl vu:Value} {lo hi:Option Int} {Q:Value->Shared->Prop} (ht:IsTup s.heap t items) (hs:s.heap.IsSliceOf sl vl vu .none) (pl:IsPart vl lo) (pu:IsPart vu hi)
  (hw:¬ (sIx items.size 0 lo=0/\sIx items.size items.size hi=items.size))
  (h:Q (.ref s.heap.objs.size) { s with heap:=s.heap.push { cls:=.type "tuple",data:=.seq ((items.toList.drop (sIx items.size 0 lo)).take (sIx items.size items.size hi-sIx items.size 0 lo)).toArray } })
  (hsz:items.size<=sizeLine):wpAny (model prog w) A (getItem (.ref t) (.ref sl)) Q E s:=by
 have htake:sizeOk (.seq ((items.toList.drop (sIx items.size 0 lo)).take (sIx items.size items.size hi-sIx items.size 0 lo)).toArray):=by
  show ((items.toList.drop (sIx items.size 0 lo)).take (sIx items.size items.size hi-sIx items.size 0 lo)).toArray.size<=sizeLine
  rw [List.size_toArray,List.length_take,List.length_drop,Array.length_toList]
  omega
 have hj:sIx items.size items.size hi<=items.size:=sIx_le _ _ (Nat.le_refl _) hi
 obtain⟨os,hos,hcs,hds⟩:=id hs
 have hTs:s.TypeIs (.ref sl) "slice":=⟨os,hos,hcs⟩
 unfold getItem
 try with_reducible refine wpAny_holding ?_
 first|refine wpAny_bind (wpAny_pure ?_)|skip
 refine wpAny_bind (wpAny_sequenceKey ht.typeIs (by decide) ?_)
 refine wpAny_bind (wpAny_callSpecial?_slot (name:=Str.ofString "__getitem__") ht.typeIs PyProof.Rows.slot_tuple_getitem
  (wpAny_call_entry PyProof.Rows.slot_tuple_getitem ht.typeIs entry_tuple_getitem ?_ (args_tuple_getitem _ _)))
 show wpAny _ _ (Builtin.Tuple.tupleItemsOf (.ref t) >>= _) _ _ s
 refine wpAny_bind (tupleItemsOf_ ht ?_)
 refine wpAny_bind (wpAny_typeOf hTs ?_)
 rw [if_pos (by decide)]
 refine wpAny_bind (hV hs pl pu ?_)
 have hno:¬ ((((sIx items.size 0 lo:Nat):Int) == 0 && (1:Int) == 1 && (sIx items.size items.size hi-sIx items.size 0 lo) == items.size)=true):=by
  intro q
  rw [Bool.and_eq_true,Bool.and_eq_true] at q
  have q1:((sIx items.size 0 lo:Nat):Int)=0:=eq_of_beq q.1.1
  have q2:sIx items.size items.size hi-sIx items.size 0 lo=items.size:=eq_of_beq q.2
  exact hw ⟨by omega,by omega⟩
 show wpAny _ _ (if (((sIx items.size 0 lo:Nat):Int) == 0 && (1:Int) == 1 && (sIx items.size items.size hi-sIx items.size 0 lo) == items.size)=true then _ else _) _ _ s
 rw [if_neg hno,AeV]
 first
  | exact wpAny_bind (m:=Builtin.Tuple.tupleExact _) (wpAny_newObj_type (wpAny_pure ⟨_,rfl,wpAny_pure h⟩) htake)
  | exact wpAny_bind (m:=Builtin.Tuple.tupleExact _) (wpAny_newObj_type (wpAny_bind (wpAny_pure (wpAny_pure ⟨_,rfl,wpAny_pure h⟩))) htake)
  | exact wpAny_bind (wpAny_bind (m:=Builtin.Tuple.tupleExact _) (wpAny_newObj_type (wpAny_pure (wpAny_pure ⟨_,rfl,wpAny_pure h⟩)) htake))
  | exact wpAny_bind (wpAny_bind (m:=Builtin.Tuple.tupleExact _) (wpAny_newObj_type (wpAny_pure ⟨_,rfl,wpAny_pure h⟩) htake))
end
end HT
namespace L2
open PySem PySem.Spec PyProof.Rows
abbrev TO:=St->Hp->(Option Int->Hp->Prop)->Prop
def PO (X:Cx) (e:Option Expr) (t:TO):Prop:=
 ∀(pins:List (Addr × Obj)) (s:Shared) (σ:St) (H:Hp) (Q:Option Int->Hp->Prop),Inv X pins σ H s->t σ H Q ->
  wpAny (model X.prog X.w) X.A (evalPart e X.env) (fun u s'=>∃o H',Inv X pins σ H' s'/\IsPart u o/\Q o H') X.xe s
def tNoPart:TO:=fun _ H Q=>Q none H
def tPart (t:TE):TO:=fun σ H Q=>t σ H fun x H1=>∃i,x=.int i/\Q (some i) H1
theorem qY {ns:List Int}:∀{us:List Value},cE (ns.map V.int) us->IntsAre us ns:=by
 induction ns with
 | nil=>intro us r;rw [List.map_nil] at r;cases r;exact .nil
 | cons n ns ih=>
  intro us r
  rw [List.map_cons] at r
  cases r with
  | cons r1 r2=>
   obtain⟨t,e⟩:=r1
   subst e
   exact .cons n t (ih r2)
section
variable {X:Cx} {e:Expr} {te:TE} {lo hi:Option Expr} {tl th:TO} {pos p2:Pos}
theorem gA:PO X none tNoPart:=by
 intro pins s σ H Q I h
 rw [evalPart_none]
 exact wpAny_pure ⟨none,H,I,.none,h⟩
theorem eM (h:PE X e te):PO X (some e) (tPart te):=by
 intro pins s σ H Q I hw
 rw [evalPart_some]
 refine thn (h s σ H _ I hw) fun u s1 ⟨x,H1,I1,r1,q1⟩=>?_
 obtain⟨i,rfl,q⟩:=q1
 obtain⟨t,rfl⟩:=r1
 exact⟨some i,H1,I1,.int i t,q⟩
def SlR (X:Cx) (r:V->Option Int->Option Int->Hp->VK->Prop):Prop:=
 ∀(pins:List (Addr × Obj)) (s:Shared) (σ:St) (H:Hp) (x:V) (v vl vu:Value) (lo hi:Option Int) (sl:Addr) (Q:VK),Inv X pins σ H s->cK x v->s.heap.IsSliceOf sl vl vu .none->IsPart vl lo->IsPart vu hi->r x lo hi H Q ->
  ∃T id,typeLookup (.type T) "__getitem__"=pure (some (.builtin id))/\s.TypeIs v T/\wpAny (model X.prog X.w) X.A (getItem v (.ref sl)) (EP X pins σ Q) X.xe s
def tSl (r:V->Option Int->Option Int->Hp->VK->Prop) (te:TE) (tl th:TO):TE:=fun σ H Q=>te σ H fun x H1=>tl σ H1 fun l H2=>th σ H2 fun u H3=>r x l u H3 Q
theorem eG {r:V->Option Int->Option Int->Hp->VK->Prop} (hr:SlR X r) (he:PE X e te) (hl:PO X lo tl) (hu:PO X hi th):PE X (.Subscript e (.Slice lo hi none p2) pos) (tSl r te tl th):=by
 intro pins s σ H Q I h
 refine Subscript_ (thn (he s σ H _ I h) fun v s1 ⟨x,H1,I1,r1,q1⟩=>?_)
 refine wpAny_Slice (thn (hl pins s1 σ H1 _ I1 q1) fun vl s2 ⟨l,H2,I2,pl,q2⟩=>thn (hu pins s2 σ H2 _ I2 q2) fun vu s3 ⟨u,H3,I3,pu,q3⟩=>?_)
 rw [evalPart_none]
 refine wpAny_pure ?_
 have I4:Inv X pins σ H3 { s3 with heap:=s3.heap.push { cls:=.type "slice",data:=.fields #[vl,vu,.none] } }:=I3.kept (t':=s3.toks) fun b ob q=>Heap.get?_push_of_some _ q
 obtain⟨T,id,hT,ht,hg⟩:=hr pins { s3 with heap:=s3.heap.push { cls:=.type "slice",data:=.fields #[vl,vu,.none] } } σ H3 x v vl vu l u s3.heap.objs.size Q I4 r1 (Heap.IsSliceOf.new ..) pl pu q3
 show wpAny (model X.prog X.w) X.A (subscriptTail e (.Slice lo hi none p2) v (.ref s3.heap.objs.size)) (EP X pins σ Q) X.xe { s3 with heap:=s3.heap.push { cls:=.type "slice",data:=.fields #[vl,vu,.none] } }
 exact tail_any (ops:=[.ref s3.heap.objs.size,v]) ht hT hg (by with_unfolding_all rfl)
def nV (xs:List V) (lo hi:Option Int):List V:=(xs.drop (HT.sIx xs.length 0 lo)).take (HT.sIx xs.length xs.length hi-HT.sIx xs.length 0 lo)
theorem xB (xs:List V) (lo hi:Option Int):(nV xs lo hi).length<=xs.length:=by
 unfold nV
 rw [List.length_take,List.length_drop]
 omega
def rSlT (K:PySem.W.Frag):V->Option Int->Option Int->Hp->VK->Prop:=fun x lo hi H Q=>∃a xs,x=.ref a/\SqT K H a xs /\
 ¬ (HT.sIx xs.length 0 lo=0/\HT.sIx xs.length xs.length hi=xs.length)/\∀p,H p=none->Q (.ref p) (upd H p (.tup (nV xs lo hi)))
theorem sl_tup:SlR X (rSlT X.K):=by
 intro pins s σ H x v vl vu lo hi sl Q I rx hs pl pu h
 obtain⟨a,xs,rfl,hx,hw,q⟩:=h
 cases rx
 obtain⟨its,r,ht,hz⟩:=I.tuple hx
 have hlen:its.toArray.size=xs.length:=by rw [List.size_toArray];exact r.length.symm
 refine⟨"tuple",_,PyProof.Rows.slot_tuple_getitem.lookup,ht.typeIs,?_⟩
 refine HT.getItem_tuple_cut ht hs pl pu (by rw [hlen];exact hw) ?_ (by rw [hlen];exact hz)
 rw [hlen]
 refine⟨.ref s.heap.objs.size,_,I.laid (t':=s.toks) (o:=.tup (nV xs lo hi)) (fun b ob q=>Heap.get?_push_of_some _ q) (Nat.le_refl _) ?_,rfl,q _ (I.hok.fresh (Nat.le_refl _))⟩
 exact⟨Nat.le_trans (xB xs lo hi) hz,_,(r.drop (HT.sIx xs.length 0 lo)).take (HT.sIx xs.length xs.length hi-HT.sIx xs.length 0 lo),IsTup.new _ _⟩
def rCatT (K:PySem.W.Frag):R2:=fun x y H Q=>∃a b xs ys,x=.ref a/\y=.ref b/\SqT K H a xs/\SqT K H b ys/\xs≠[]/\xs.length+ys.length<=sizeLine /\
 (ys=[]->Q (.ref a) H)/\(ys≠[]->∀p,H p=none->Q (.ref p) (upd H p (.tup (xs++ys))))
theorem cE.nil_iff {xs:List V} {us:List Value} (r:cE xs us):us=[]↔xs=[]:=by
 cases r with
 | nil=>simp
 | cons _ _=>simp
theorem op_catT:OpR X (binaryOp .Add) (rCatT X.K):=by
 intro pins s σ H x y v u Q I rx ry h
 obtain⟨a,b,xs,ys,rfl,rfl,ha,hb,hx,hz,q1,q2⟩:=h
 cases rx
 cases ry
 obtain⟨its,r1,p1,_⟩:=I.tuple ha
 obtain⟨its2,r2,p2,_⟩:=I.tuple hb
 refine HT.cat_tup p1 p2 (fun z=>hx (r1.nil_iff.mp z)) (fun z=>⟨.ref a,H,I,rfl,q1 (r2.nil_iff.mp z)⟩) (fun z=>?_) (by rw [<- r1.length,<- r2.length];exact hz)
 refine⟨.ref s.heap.objs.size,_,I.laid (t':=s.toks) (o:=.tup (xs++ys)) (fun b ob q=>Heap.get?_push_of_some _ q) (Nat.le_refl _) ?_,rfl,q2 (fun w=>z (r2.nil_iff.mpr w)) _ (I.hok.fresh (Nat.le_refl _))⟩
 exact⟨by rw [List.length_append];exact hz,_,r1.append r2,IsTup.new _ _⟩
end
def ixN (n:Nat) (i:Int):Option Nat:=if 0<=i then(if i<n then some i.toNat else none) else if -(n:Int)<=i then some (i+n).toNat else none
def atI {α:Type} (xs:List α) (i:Int):Option α:=(ixN xs.length i).bind fun j=>xs[j]?
theorem AbH {n:Nat} {i:Int} {j:Nat} (h:ixN n i=some j):seqIndex? i n=some j/\j<n/\-(n:Int)<=i/\i<n:=by
 unfold ixN at h
 by_cases h0:0<=i
 ·rw [if_pos h0] at h
  by_cases h1:i<n
  ·rw [if_pos h1] at h
   have e:i.toNat=j:=Option.some.inj h
   exact⟨by rw [seqIndex_of h0 h1,e],by omega,by omega,h1⟩
  ·rw [if_neg h1] at h;cases h
 ·rw [if_neg h0] at h
  by_cases h1:-(n:Int)<=i
  ·rw [if_pos h1] at h
   have e:(i+n).toNat=j:=Option.some.inj h
   exact⟨by rw [seqIndex_neg (by omega) h1,e],by omega,h1,by omega⟩
  ·rw [if_neg h1] at h;cases h
theorem AbV {α:Type} {xs:List α} {i:Int} {v:α} (h:atI xs i=some v):∃j,seqIndex? i xs.length=some j/\xs[j]?=some v/\j<xs.length/\-(xs.length:Int)<=i/\i<xs.length:=by
 unfold atI at h
 cases e:ixN xs.length i with
 | none=>rw [e] at h;cases h
 | some j=>
  rw [e] at h
  obtain⟨h1,h2,h3,h4⟩:=AbH e
  exact⟨j,h1,h,h2,h3,h4⟩
theorem aM {α:Type} {xs:List α} {j:Nat} {v:α} (h:xs[j]?=some v):atI xs (j:Int)=some v:=by
 have hj:j<xs.length:=(List.getElem?_eq_some_iff.mp h).1
 have e:ixN xs.length (j:Int)=some j:=by
  unfold ixN
  rw [if_pos (by omega),if_pos (by omega)];simp
 unfold atI;rw [e];exact h
theorem rK {α:Type} (xs:List α) (v:α):atI (xs++[v]) (-1)=some v:=by
 have hl:(xs++[v]).length=xs.length+1:=by simp
 have e:ixN (xs++[v]).length (-1)=some xs.length:=by
  unfold ixN
  rw [hl,if_neg (by decide),if_pos (by omega)]
  congr 1
  omega
 unfold atI
 rw [e]
 show (xs++[v])[xs.length]?=some v
 simp
def PlainIx (b:Expr):Prop:=∀o i,subscripted b false o i=operate [o,i] (getItem o i)
def IxR (X:Cx) (r:R2):Prop:=
 ∀(value slice:Expr) (pins:List (Addr × Obj)) (s:Shared) (σ:St) (H:Hp) (x y:V) (v u:Value) (Q:VK),Inv X pins σ H s->cK x v->cK y u->r x y H Q ->
  subscripted slice false v u=operate [v,u] (getItem v u)->wpAny (model X.prog X.w) X.A (subscriptTail value slice v u) (EP X pins σ Q) X.xe s
def MtR (X:Cx) (id:String) (r:V->List V->Hp->VK->Prop):Prop:=
 ∀(pins:List (Addr × Obj)) (s:Shared) (σ:St) (H:Hp) (x:V) (xs:List V) (v:Value) (us:List Value) (Q:VK),Inv X pins σ H s->cK x v->cE xs us->r x xs H Q ->
  wpAny (model X.prog X.w) X.A (call (.builtin id) (v::us)) (EP X pins σ Q) X.xe s
section
variable {X:Cx} {a b:Expr} {ta tb:TE} {pos:Pos}
theorem bJ {r:R2} (hr:IxR X r) (ha:PE X a ta) (hb:PE X b tb) (hs:PlainIx b):PE X (.Subscript a b pos) (tOp r ta tb):=by
 intro pins s σ H Q I h
 exact Subscript_ (binT ha hb I h fun v u s2 x y H2 I2 rx ry q=>hr a b pins s2 σ H2 x y v u Q I2 rx ry q (hs _ _))
def rIxL (K:PySem.W.Frag):R2:=fun x y H Q=>∃p xs i v,x=.ref p/\y=.int i/\SqL K H p xs/\atI xs i=some v/\Q v H
def wA (K:PySem.W.Frag):R2:=fun x y H Q=>∃p xs i v,x=.ref p/\y=.int i/\SqT K H p xs/\atI xs i=some v/\Q v H
theorem cV:IxR X (rIxL X.K):=by
 intro value slice pins s σ H x y v u Q I rx ry h hs
 obtain⟨p,xs,i,z,rfl,rfl,hq,he,q⟩:=h
 cases rx
 obtain⟨t,rfl⟩:=ry
 obtain⟨its,r,pl,hz⟩:=I.list hq
 obtain⟨j,h1,h2,h3,h4,h5⟩:=AbV he
 obtain⟨w,ew,rw'⟩:=r.get h2
 have hl:=r.length
 have hn:=nJ
 have fin:EP X pins σ Q w s:=⟨z,H,I,rw',q⟩
 by_cases h0:0<=i
 ·have hj:i.toNat=j:=by
   rw [seqIndex_of h0 h5] at h1
   exact Option.some.inj h1
  exact item_listR pl.isList h0 (by omega) (by rw [hj];simpa using ew) fin hs
 ·have hj:(i+(its.toArray.size:Int)).toNat=j:=by
   rw [seqIndex_neg (by omega) h4] at h1
   rw [List.size_toArray,<- hl]
   exact Option.some.inj h1
  exact subscriptTail_builtinR (x:=w) pl.isList.typeIs slot_list_getitem.lookup
   (wpAny_getItem_list_neg (Q:=fun r s'=>r=w/\EP X pins σ Q r s') pl.isList (by omega) (by rw [List.size_toArray] <;> omega) (by omega) (by rw [hj];simpa using ew) ⟨rfl,fin⟩) hs
theorem bQ:IxR X (wA X.K):=by
 intro value slice pins s σ H x y v u Q I rx ry h hs
 obtain⟨p,xs,i,z,rfl,rfl,hq,he,q⟩:=h
 cases rx
 obtain⟨t,rfl⟩:=ry
 obtain⟨its,r,pl,hz⟩:=I.tuple hq
 obtain⟨j,h1,h2,h3,h4,h5⟩:=AbV he
 obtain⟨w,ew,rw'⟩:=r.get h2
 have hl:=r.length
 have hn:=nJ
 have fin:EP X pins σ Q w s:=⟨z,H,I,rw',q⟩
 exact subscriptTail_builtinR (x:=w) pl.typeIs slot_tuple_getitem.lookup
  (getItem_tuple (j:=j) (Q:=fun r s'=>r=w/\EP X pins σ Q r s') pl (by omega) (by omega) (by rw [List.size_toArray,<- hl];exact h1) (by simpa using ew) ⟨rfl,fin⟩) hs
theorem zL (its:List Value) (n j:Nat) (u:Value):Obj.mapSeq (·.setIfInBounds j u) { cls:=.type "list",data:=.seq its.toArray n }={ cls:=.type "list",data:=.seq (its.set j u).toArray n }:=by
 simp [Obj.mapSeq]
theorem Inv.lst {pins:List (Addr × Obj)} {σ:St} {H:Hp} {s:Shared} {p:Addr} {xs:List V} (I:Inv X pins σ H s) (h:H p=some (.lst xs)):
  ∃(its:List Value) (n:Nat),cE xs its/\s.heap.get? p=some { cls:=.type "list",data:=.seq its.toArray n }/\xs.length<=sizeLine:=by
 obtain⟨z,its,n,r,e⟩:=I.hok p _ h
 exact⟨its,n,r,e,z⟩
theorem Inv.lstUpd {pins:List (Addr × Obj)} {σ:St} {H:Hp} {s:Shared} {p:Addr} {xs ys:List V} {its its':List Value} {n n':Nat} {f:Obj->Obj} (I:Inv X pins σ H s) (h:H p=some (.lst xs))
  (ho:s.heap.get? p=some { cls:=.type "list",data:=.seq its.toArray n }) (hf:f { cls:=.type "list",data:=.seq its.toArray n }={ cls:=.type "list",data:=.seq its'.toArray n' }) (r:cE ys its') (hz:ys.length<=sizeLine) (t:Nat):
  Inv X pins σ (upd H p (.lst ys)) { s with heap:=s.heap.update p f,toks:=t }:=by
 have e:(s.heap.update p f).get? p=some { cls:=.type "list",data:=.seq its'.toArray n' }:=by
  rw [Heap.get?_update_self f ho (by rw [hf] <;> rfl),hf]
 refine I.write (x:=p) (e:=p) (by rw [h];trivial) (.inl rfl) (fun b u hb q=>(Heap.get?_update_other _ _ (Ne.symm hb)).trans q) ⟨_,e⟩ ?_
 exact⟨hz,its',n',r,e⟩
def rSetL:V->V->V->Hp->(Hp->Prop)->Prop:=fun o i v H Q=>∃p xs k j,o=.ref p/\i=.int k/\H p=some (.lst xs)/\ixN xs.length k=some j/\Q (upd H p (.lst (xs.set j v)))
theorem pW:PSet X rSetL:=by
 intro pins s σ H o i v ov iv u Q I ro ri rv h
 obtain⟨p,xs,k,j,rfl,rfl,hp,hj,q⟩:=h
 cases ro
 obtain⟨t,rfl⟩:=ri
 obtain⟨its,n,r,ho,hz⟩:=I.lst hp
 obtain⟨h1,h2,h3,h4⟩:=AbH hj
 have hl:=r.length
 have hn:=nJ
 have I':Inv X pins σ (upd H p (.lst (xs.set j v))) { s with heap:=s.heap.update p (Obj.mapSeq (·.setIfInBounds j u)) }:=
  I.lstUpd hp ho (zL its n j u) (r.set rv j) (by rw [List.length_set];exact hz) s.toks
 by_cases h0:0<=k
 ·have hk:k.toNat=j:=by
   rw [seqIndex_of h0 h4] at h1
   exact Option.some.inj h1
  exact PySem.W.ki_setAt ho h0 (by omega) (by rw [List.size_toArray,<- hl];exact h4) (by rw [hk];exact⟨_,I',q⟩)
 ·have hk:(k+(its.toArray.size:Int)).toNat=j:=by
   rw [seqIndex_neg (by omega) h3] at h1
   rw [List.size_toArray,<- hl]
   exact Option.some.inj h1
  exact PySem.W.ki_setBack ho (by omega) (by rw [List.size_toArray,<- hl];exact h3) (by omega) (by rw [hk];exact⟨_,I',q⟩)
theorem cR:iS X (.builtin "len") (fun xs H Q=>∃p ys,xs=[.ref p]/\(SqL X.K H p ys\/SqT X.K H p ys)/\Q (.int ys.length) H):=by
 intro pins s σ H xs us Q I r h
 obtain⟨p,ys,rfl,hq,q⟩:=h
 obtain⟨u,rfl,rx⟩:=lC r
 cases rx
 have hn:=nJ
 rcases hq with hq|hq
 ·obtain⟨its,r',pl,hz⟩:=I.list hq
  have hlen:=r'.length
  exact Calls.call_len_list pl.isList (by simp only [List.size_toArray] <;> omega) ⟨.int ys.length,H,I.tok _,⟨s.toks+1,by rw [List.size_toArray,hlen]⟩,q⟩
 ·obtain⟨its,r',pl,hz⟩:=I.tuple hq
  have hlen:=r'.length
  exact len_tuple pl (by simp only [List.size_toArray] <;> omega) ⟨.int ys.length,H,I.tok _,⟨s.toks+1,by rw [List.size_toArray,hlen]⟩,q⟩
theorem vE:iS X (.builtin "len") (fun xs H Q=>∃z,xs=[.str z]/\z.length<=sizeLine/\Q (.int z.length) H):=by
 intro pins s σ H xs us Q I r h
 obtain⟨z,rfl,hz,q⟩:=h
 obtain⟨u,rfl,t,rfl⟩:=lC r
 have hn:=nJ
 exact len_str (by omega) ⟨.int z.length,H,I.tok _,⟨_,rfl⟩,q⟩
theorem vD:iS X (.type "list") (fun xs H Q=>∃p ys,xs=[.ref p]/\(SqL X.K H p ys\/SqT X.K H p ys)/\∀l,H l=none->Q (.ref l) (upd H l (.lst ys))):=by
 intro pins s σ H xs us Q I r h
 obtain⟨p,ys,rfl,hq,q⟩:=h
 obtain⟨u,rfl,rx⟩:=lC r
 cases rx
 have fin:∀(its:List Value),cE ys its->ys.length<=sizeLine->∀(h':Heap) (c':Nat),(∀b o',s.heap.get? b=some o'->h'.get? b=some o') ->
   h'.get? s.heap.objs.size=some { cls:=.type "list",dict:=none,data:=.seq its.toArray c',slots:=#[] }->EP X pins σ Q (.ref s.heap.objs.size) { s with heap:=h' }:=fun its r' hz h' c' kp e=>
  ⟨.ref s.heap.objs.size,_,I.laid (t':=s.toks) kp (Nat.le_refl _) (show cL X.prog X.w _ h' _ (.lst ys) from⟨hz,its,c',r',e⟩),rfl,q _ (I.hok.fresh (Nat.le_refl _))⟩
 rcases hq with hq|hq
 ·obtain⟨its,r',pl,hz⟩:=I.list hq
  have hlen:=r'.length
  obtain⟨o,ho,hc,n,hd⟩:=pl.isList
  exact call_list_seq p (.inl rfl) ho hc hd (fun h' c' kp e=>fin its r' hz h' c' kp e) (by simp only [List.size_toArray] <;> omega)
 ·obtain⟨its,r',pl,hz⟩:=I.tuple hq
  have hlen:=r'.length
  obtain⟨o,ho,hc,n,hd⟩:=pl
  exact call_list_seq p (.inr rfl) ho hc hd (fun h' c' kp e=>fin its r' hz h' c' kp e) (by simp only [List.size_toArray] <;> omega)
theorem dW:iS X (.type "tuple") (fun xs H Q=>∃p ys,xs=[.ref p]/\((SqL X.K H p ys/\∀l,H l=none->Q (.ref l) (upd H l (.tup ys)))\/(SqT X.K H p ys/\Q (.ref p) H))):=by
 intro pins s σ H xs us Q I r h
 obtain⟨p,ys,rfl,h⟩:=h
 obtain⟨u,rfl,rx⟩:=lC r
 cases rx
 rcases h with ⟨hq,q⟩|⟨hq,q⟩
 ·obtain⟨its,r',pl,hz⟩:=I.list hq
  have hlen:=r'.length
  refine call_tuple_list pl.isList (fun h' kp=>?_) (by simp only [List.size_toArray] <;> omega)
  have I1:Inv X pins σ H { s with heap:=h' }:=I.kept (t':=s.toks) kp
  have I2:Inv X pins σ (upd H h'.objs.size (.tup ys)) { s with heap:=h'.push { cls:=.type "tuple",data:=.seq its.toArray } }:=
   I1.laid (t':=s.toks) (fun b o e=>Heap.get?_push_of_some _ e) (Nat.le_refl _) (show cL X.prog X.w _ _ _ (.tup ys) from⟨hz,its,r',IsTup.new _ _⟩)
  exact⟨.ref h'.objs.size,_,I2,rfl,q _ (I1.hok.fresh (Nat.le_refl _))⟩
 ·obtain⟨its,r',pl,hz⟩:=I.tuple hq
  exact call_tuple_same pl ⟨.ref p,H,I,rfl,q⟩
def tyV (K:PySem.W.Frag) (T:String) (x:V) (H:Hp):Prop:=match x with
 | .str _=>T="str"
 | .int _=>T="int"
 | .ref p=>(T="list"/\∃xs,SqL K H p xs)\/(T="tuple"/\∃o,K.lookup p=some o/\o.cls=.type "tuple"/\o.dict=none) \/
   (T="dict"/\((∃kvs,H p=some (.dK kvs))\/∃kvs,H p=some (.dT kvs)))\/(T="set"/\∃S n,H p=some (.set S n))
 | _=>False
theorem AdV {pins:List (Addr × Obj)} {σ:St} {H:Hp} {s:Shared} {T:String} {x:V} {v:Value} (I:Inv X pins σ H s) (r:cK x v) (ty:tyV X.K T x H):
  s.TypeIs v T/\∀a,v=.ref a->∃ob,s.heap.get? a=some ob/\ob.dict=none:=by
 cases x with
 | str z=>
  obtain⟨t,rfl⟩:=r
  cases (show T="str" from ty)
  exact⟨typeIs_str s z t,fun _ e=>nomatch e⟩
 | int i=>
  obtain⟨t,rfl⟩:=r
  cases (show T="int" from ty)
  exact⟨typeIs_int s i t,fun _ e=>nomatch e⟩
 | ref p=>
  cases r
  rcases ty with ⟨rfl,xs,hq⟩|⟨rfl,o,hk,hc,hd⟩|⟨rfl,hk⟩|⟨rfl,S,n,hk⟩
  ·obtain⟨its,_,pl,_⟩:=I.list hq
   refine⟨pl.isList.typeIs,fun a e=>?_⟩
   cases e
   obtain⟨o,n,e,c,hd,_⟩:=pl
   exact⟨o,e,hd⟩
  ·refine⟨⟨o,I.kIn p o hk,hc⟩,fun a e=>?_⟩
   cases e
   exact⟨o,I.kIn _ o hk,hd⟩
  ·have z:∃o,s.heap.get? p=some o/\o.ExactDict:=by
    rcases hk with ⟨kvs,hk⟩|⟨kvs,hk⟩
    ·obtain⟨_,_,_,_,o,_,_,e,ex,_⟩:=I.hok p _ hk
     exact⟨o,e,ex⟩
    ·obtain⟨_,_,_,_,o,_,_,e,ex,_⟩:=I.hok p _ hk
     exact⟨o,e,ex⟩
   obtain⟨o,e,ex⟩:=z
   refine⟨⟨o,e,ex.1⟩,fun a e2=>?_⟩
   cases e2
   exact⟨o,e,ex.2.1⟩
  ·obtain⟨o,_,_,_,e,ex,_⟩:=I.hok p _ hk
   refine⟨⟨o,e,ex.1⟩,fun a e2=>?_⟩
   cases e2
   exact⟨o,e,ex.2.1⟩
 | _=>exact False.elim ty
def tBM0 (K:PySem.W.Frag) (T:String) (r:V->List V->Hp->VK->Prop) (to:TE):TE:=fun σ H Q=>to σ H fun x H1=>tyV K T x H1/\r x [] H1 Q
def tBM (K:PySem.W.Frag) (T:String) (r:V->List V->Hp->VK->Prop) (to:TE) (t:TA):TE:=fun σ H Q=>to σ H fun x H1=>tyV K T x H1/\t σ H1 fun xs H2=>r x xs H2 Q
variable {o e:Expr} {es:List Expr} {to:TE} {t:TA} {name:Str} {apos cpos:Pos} {T id:String} {r:V->List V->Hp->VK->Prop}
theorem AfB (pa:PlainAttrs T) (slot:Slot T name id) (hty:typeOf (.builtin id)=pure (.type "method_descriptor")) (hm:MtR X id r) (ho:PE X o to)
  (hbase:attributeBase o name X.env (eval o X.env)=eval o X.env:=by rfl) (hline:(apos.endLine == cpos.line)=true:=by rfl):PE X (.Call (.Attribute o name apos) [] [] cpos) (tBM0 X.K T r to):=by
 intro pins s σ H Q I h
 refine wpAny_Call_method0_late hbase hline (thn (ho s σ H _ I h) fun v s1 ⟨x,H1,I1,r1,ty,q1⟩=>?_)
 obtain⟨h1,h2⟩:=AdV I1 r1 ty
 exact⟨T,id,pa,slot,hty,h1,h2,Calls.callWith_builtin rfl (PySem.evalArgs_none (hm pins s1 σ H1 x [] v [] Q I1 r1 .nil q1))⟩
theorem wF (pa:PlainAttrs T) (slot:Slot T name id) (hty:typeOf (.builtin id)=pure (.type "method_descriptor")) (hm:MtR X id r) (ho:PE X o to) (ha:PA X (e::es) t)
  (hbase:attributeBase o name X.env (eval o X.env)=eval o X.env:=by rfl)
  (hfew:((backTo cpos (starEach (e::es) X.env)).all (fun x=>!x.1) && (backToKw cpos (keywordEach [] X.env)).all (fun x=>x.1.isSome)
   && decide ((e::es).length+([]:List Keyword).length+(if ([]:List Keyword).isEmpty then 0 else 1)<30))=true:=by rfl)
  (hline:(apos.endLine == cpos.line)=true:=by rfl) (hs:starEach (e::es) X.env=(false,eval e X.env)::starEach es X.env:=by rfl) (hplain:(backTo cpos (starEach es X.env)).any (·.1)=false:=by rfl):
  PE X (.Call (.Attribute o name apos) (e::es) [] cpos) (tBM X.K T r to t):=by
 intro pins s σ H Q I h
 refine wpAny_Call_method_late hbase hfew hline rfl (thn (ho s σ H _ I h) fun v s1 ⟨x,H1,I1,r1,ty,q1⟩=>?_)
 obtain⟨h1,h2⟩:=AdV I1 r1 ty
 refine⟨T,id,pa,slot,hty,h1,h2,?_⟩
 have hA:=@ha cpos pins s1 σ H1 _ I1 q1
 rw [hs] at hA ⊢
 refine Calls.callWith_builtin (by show (false || (backTo cpos (starEach es X.env)).any (·.1))=false;rw [hplain] <;> rfl) (Calls.evalArgs_plain ?_)
 exact thn hA fun us s2 ⟨vs,H2,I2,r2,q2⟩=>hm pins s2 σ H2 x vs v us Q I2 r1 r2 q2
end
def MtM (X:Cx) (id:String) (r:V->List V->Hp->VK->Prop):Prop:=
 ∀(pins:List (Addr × Obj)) (s:Shared) (σ:St) (H:Hp) (x:V) (xs:List V) (v:Value) (us:List Value) (Q:VK),Inv X pins σ H s->cK x v->cE xs us->r x xs H Q ->
  wpAny (model X.prog X.w) X.A (call (.builtin id) (v::us)) (EP X pins σ Q) X.xe s
theorem cE.one:∀{x:V} {us:List Value},cE [x] us->∃u,us=[u]/\cK x u
 | _,_,.cons r .nil=>⟨_,rfl,r⟩
theorem cE.zero:∀{us:List Value},cE [] us->us=[]
 | _,.nil=>rfl
section
variable {X:Cx} {pins:List (Addr × Obj)} {σ:St} {H:Hp} {s:Shared} {l b:Addr} {xs ys zs:List V}
theorem Inv.lset {its its':List Value} {n:Nat} {f:Array Value->Array Value} {t':Nat} (I:Inv X pins σ H s) (hH:H l=some (.lst xs))
  (e:s.heap.get? l=some { cls:=.type "list",data:=.seq its.toArray n }) (hf:f its.toArray=its'.toArray) (hv:cE ys its') (hz:ys.length<=sizeLine):
  Inv X pins σ (upd H l (.lst ys)) { s with heap:=s.heap.update l (Obj.mapSeq f),toks:=t' }:=by
 have q:=PySem.IsL.update e f
 rw [hf] at q
 refine I.write (x:=l) (e:=l) (by rw [hH];exact trivial) (.inl rfl) (fun b' u hb hu=>(Heap.get?_update_other s.heap (Obj.mapSeq f) (Ne.symm hb)).trans hu) ⟨_,q⟩ ?_
 exact⟨hz,its',_,hv,q⟩
theorem Inv.lnew {its:List Value} {t':Nat} (I:Inv X pins σ H s) (hv:cE ys its) (hz:ys.length<=sizeLine):
  Inv X pins σ (upd H s.heap.objs.size (.lst ys)) { s with heap:=s.heap.push { cls:=.type "list",data:=.seq its.toArray },toks:=t' }:=
 I.laid (fun _ _ q=>Heap.get?_push_of_some _ q) (Nat.le_refl _) ⟨hz,its,0,hv,Heap.get?_push_size _ rfl⟩
theorem Inv.fresh (I:Inv X pins σ H s):H s.heap.objs.size=none:=I.hok.fresh (Nat.le_refl _)
theorem Inv.lstM (I:Inv X pins σ H s) (hH:H l=some (.lst xs)):xs.length<=sizeLine/\∃(its:List Value) (n:Nat),cE xs its/\xs.length=its.length/\s.heap.get? l=some { cls:=.type "list",data:=.seq its.toArray n }:=by
 obtain⟨z,its,n,r,e⟩:=I.hok l _ hH
 exact⟨z,its,n,r,r.length,e⟩
end
section
variable {X:Cx}
def AaQ:V->List V->Hp->VK->Prop:=fun x vs H Q=>∃l xs y,x=.ref l/\vs=[y]/\H l=some (.lst xs)/\xs.length<sizeLine/\Q .non (upd H l (.lst (xs++[y])))
theorem eL:MtM X "list.append" AaQ:=by
 intro pins s σ H x vs v us Q I rx rv h
 obtain⟨l,xs,y,rfl,rfl,hH,hz,q⟩:=h
 cases rx
 obtain⟨u,rfl,ru⟩:=rv.one
 obtain⟨z,its,n,r,hl,e⟩:=I.lstM hH
 refine call_meets F.slot_list_append ⟨_,e,rfl⟩ F.entry_list_append (F.args_list_append_2 _ _) (PySem.list_append l its.toArray n u (by rw [List.size_toArray];omega)) ⟨e,?_⟩
 refine⟨.non,_,I.lset (its':=its++[u]) hH e (by simp) (r.append (.cons ru .nil)) ?_,rfl,q⟩
 rw [List.length_append,List.length_singleton]
 omega
def rCat:R2:=fun x y H Q=>∃l b xs zs,x=.ref l/\y=.ref b/\H l=some (.lst xs)/\H b=some (.lst zs)/\xs.length+zs.length<=sizeLine/\∀p,H p=none->Q (.ref p) (upd H p (.lst (xs++zs)))
theorem gW:OpR X (binaryOp .Add) rCat:=by
 intro pins s σ H x y v u Q I rx ry h
 obtain⟨l,b,xs,zs,rfl,rfl,hH,hB,hz,q⟩:=h
 cases rx
 cases ry
 obtain⟨z,its,n,r,hl,e⟩:=I.lstM hH
 obtain⟨z2,its2,n2,r2,hl2,e2⟩:=I.lstM hB
 refine PySem.P.add_list e e2 ?_ (by rw [List.size_toArray,List.size_toArray];omega)
 have ea:its.toArray++its2.toArray=(its++its2).toArray:=by simp
 rw [ea]
 exact⟨.ref _,_,I.lnew (t':=s.toks) (r.append r2) (by rw [List.length_append];omega),rfl,q _ I.fresh⟩
end
section
variable {prog:Program} {w:World} {A:Around} {E:Value->Shared->Prop} {s:Shared}
set_option maxRecDepth 100000 in
end
section
variable {X:Cx}
end
end L2
namespace Att
open PySem PySem.W PySem.Calls PyProof.Rows
theorem oJ {P:Params} {h:Heap}:∀(ns:List Int) (vs:List Value),WellAll P h vs (ns.map WData.int)->IntsAre vs ns:=by
 intro ns
 induction ns with
 | nil=>
  intro vs w
  rw [List.map_nil] at w
  cases w
  exact .nil
 | cons n ns ih=>
  intro vs w
  rw [List.map_cons] at w
  cases w with
  | cons a b=>
   cases a
   exact .cons _ _ (ih _ b)
theorem AcD {l:OpenLaw} {n:Nat} (hn:l.most=some n) {P:Params} {h:Heap} {args:List WData} {vals:List Value}
  (hpre:l.row.toRowW.claim.pre args=true) (hwl:WellAll P h vals args):
  ∃a vs ns,vals=[Value.ref a]/\args=[WData.list (ns.map WData.int)]/\h.get? a=some { cls:=.type "list",data:=.seq vs.toArray }/\IntsAre vs ns/\ns.length<=n:=by
 have hsh:WShape.hasAll [] args [.list .int]=true:=(pre_splitW hpre).1
 have hc:l.pre.holds [] { args:=args }=true:=(pre_splitW hpre).2
 obtain⟨d,r,rfl,h1,h2⟩:=hasAllW_cons hsh
 obtain rfl:=hasAllW_nil h2
 obtain⟨xs,rfl,h3⟩:=hasW_list h1
 obtain⟨ns,rfl⟩:=items_int h3
 have hlen:ns.length<=n:=by
  unfold OpenLaw.pre at hc
  have h4:(WTm.not (.lt (.lit (.int (n:Int))) (.len (.arg 0)))).holds [] { args:=[.list (ns.map .int)] }=true:=by
   have h4:=(holds_andW hc).1
   rw [hn] at h4
   exact h4
  have h5:=condW_of h4 (w_not (w_lt w_lit (w_len_list (w_arg rfl))))
  rw [List.length_map] at h5
  refine Nat.le_of_not_lt fun q=>?_
  have q':(n:Int)<((ns.length:Nat):Int):=by omega
  first
   | (rw [decide_eq_true q'] at h5;exact absurd h5 (by decide))
   | (simp at h5;omega)
 cases hwl with
 | cons w1 w2=>
  cases w2
  cases w1 with
  | list ho hall=>exact⟨_,_,ns,rfl,rfl,ho,oJ ns _ hall,hlen⟩
theorem AcH (l:OpenLaw) (args:List WData):l.row.toRowW.claim.post args (.bool true) args=true:=
 postW_of (r:=l.row.toRowW) (X:=(true == true))
  (show WShape.has [] (.bool true) .bool=true by first|rfl|decide|simp [WShape.has,WShape.arms,WShape.armsAll])
  (show (WTm.eq .res (.lit (.bool true))).value [] { args:=args,res:=some (.bool true),after:=args }=some (.bool (true == true)) from w_eq_bool (w_res rfl) w_lit) rfl
theorem attach_call {l:OpenLaw} {n:Nat} {q:Program} {loose:List Str} {XP:(Str->Option Value)->Heap->Prop} {YP:World->Heap->Prop} {d:DefRec}
  (hn:l.most=some n) (hdf:d.params.defaults=[])
  (call:∀(w:World) (s₀ s₁:Shared) (mg mb:Str->Option Value) (fa:Addr) (o:Obj) (pm cd doc:Value) (a:Addr) (vs:List Value) (ns:List Int),
   Ground q loose [] XP w s₀ mg mb s₁.heap->YP w s₁.heap ->
   s₁.heap.get? fa=some o->o.data=.func (docDef d.name d.params d.body d.scope pm cd doc)->s₁.heap.CodeRec cd d.name->mg d.name=some (.ref fa) ->
   s₁.heap.get? a=some { cls:=.type "list",data:=.seq vs.toArray }->IntsAre vs ns->ns.length<=n->s₁.gens=#[] ->
   codeAny (model l.prog w) callerA (.call (.ref fa) ⟨[.ref a],[]⟩) (fun r s'=>r=.ok (.ret (.bool true))/\OldK s₁.heap s'.heap/\s'.os=s₁.os/\AllBare s'.gens) s₁):
  WalkO q loose XP YP l.row.toRowW d [] (fun f vs=>PySem.call f vs):=by
 intro w s₀ s₁ mg mb G Y fa o pm cd doc dV kV ho hd hcd hD hmg hg args vals as hpre hlay hrd hwl hlo
 obtain rfl:dV=.none:=Dflts.none hD hdf
 obtain rfl:kV=.none:=Dflts.noKw hD
 obtain⟨a,vs,ns,rfl,rfl,hobj,hints,hlen⟩:=AcD hn hpre hwl
 refine enter_call (codeAny_mono (call w s₀ s₁ mg mb fa o pm cd doc a vs ns G Y ho (fd_plain hd) hcd hmg hobj hints hlen hg) fun r s' hq=>?_)
 obtain⟨rfl,h2,h3,h4⟩:=hq
 exact⟨.inl ⟨.bool true,.bool true,[],rfl,fun _=>rfl,.bool true,AcH l _,fun _=>⟨List.Pairwise.nil,fun _ hm=>(nomatch hm)⟩⟩,h2,h3,h4⟩
section
variable {prog:Program} {w:World} {A:Around} {E:Value->Shared->Prop} {s:Shared} {K:Frag}
end
end Att
namespace L2
open PySem PySem.Spec PyProof.Rows
theorem rZ:∀{vs:List Value} {ns:List Int},IntsAre vs ns->cE (ns.map V.int) vs
 | _,_,.nil=>.nil
 | _,_,.cons n t h=>.cons ⟨t,rfl⟩ (rZ h)
def cI (s:Stmt) (j:Nat):Stmt:=match s with
 | .ClassDef _ _ _ body _ _ _ _ _ _ _=>body.getD j (.Pass ⟨0,0,0,0⟩)
 | _=>.Pass ⟨0,0,0,0⟩
def dN (s:Stmt):Arguments:=match s with
 | .FunctionDef _ a _ _ _ _ _ _ _ _=>a
 | _=>{ posonlyargs:=[],args:=[],vararg:=none,kwonlyargs:=[],kw_defaults:=[],kwarg:=none,defaults:=[] }
def cS (s:Stmt):List Stmt:=match s with
 | .FunctionDef _ _ b _ _ _ _ _ _ _=>b
 | _=>[]
def aH (s:Stmt):Scope:=match s with
 | .FunctionDef _ _ _ _ _ _ sc _ _ _=>sc
 | _=>{ kind:=.function,names:=[],isGenerator:=false,isCoroutine:=false }
abbrev CX0:CXT:=fun _ _ _ _ _ _=>False
abbrev E0:XK:=fun _ _ _=>False
theorem aN {X:Cx}:iQ CX0 X E0:=fun _ _ _ _ _ _ _ h=>h.elim
structure Fun (K:PySem.W.Frag) (x qual:Str) (st:Stmt) (f:Addr) (fd:FuncData):Prop where
 ex:∃(oc:Value) (od:Option Addr) (kV doc pm:Value) (an:Option Addr) (cdv ct:Value) (osl:Array (Option Value)),
  fd=PySem.W.fnOf x qual (dN st) (cS st) (aH st) .none kV doc pm an cdv ct/\K.lookup f=some ⟨oc,od,.func fd,osl⟩/\PySem.W.codeIn K cdv qual=true
 kp:PySem.W.keepIn K (.ref f)=true
section
variable {P:Program} {w:World} {K:PySem.W.Frag} {mg:Str->Option Value} {base:Heap}
theorem Fun.ok {x qual:Str} {st:Stmt} {f:Addr} {fd:FuncData} {N ps:List Str} {k:Nat} {sp:Sp} (F:Fun K x qual st f fd) (S:aP N ps (aH st)) (len:∀vs H Q E,sp vs H Q E->vs.length=ps.length)
  (hbody:∀(cdv:Value) (A:Around) (outer:List Env) (s:Shared) (H:Hp) (vs:List V) (Q:VK) (E:XK),Room k (A.deeper (envOfC qual (aH st) s.heap.objs.size f cdv))->sp vs H Q E ->
   ∃t,PSs (jV CX0 P w K mg base N qual (aH st) f cdv A outer s H E).nox (cS st) t/\t { nx:=fun _ H'=>Q .non H',rt:=Q } (dI N vs) H):aJ P w K mg base CX0 (k+1) f fd ps sp:=by
 obtain⟨oc,od,kV,doc,pm,an,cdv,ct,osl,rfl,lk,hcd⟩:=F.ex
 refine fn_of lk hcd S len fun A outer s H vs Q E hr hsp=>?_
 obtain⟨t,h,q⟩:=hbody cdv A outer s H vs Q E hr hsp
 exact⟨t,h.nox,q⟩
theorem Fun.binds {x qual:Str} {st:Stmt} {f:Addr} {fd:FuncData} {ps:List Str} (F:Fun K x qual st f fd)
  (h:∀(kV doc pm:Value) (an:Option Addr) (cdv ct:Value) (us:List Value),us.length=ps.length->bindArgs (PySem.W.fnOf x qual (dN st) (cS st) (aH st) .none kV doc pm an cdv ct) ⟨us,[]⟩=pure (ps.zip us)):aO K fd ps []:=by
 obtain⟨oc,od,kV,doc,pm,an,cdv,ct,osl,rfl,lk,hcd⟩:=F.ex
 exact .all (h kV doc pm an cdv ct)
theorem zR {x qual:Str} {st:Stmt} {f:Addr} {oc:Value} {od an:Option Addr} {osl:Array (Option Value)} {kV doc pm cdv ct:Value} (l:K.lookup f=some ⟨oc,od,.func (PySem.W.fnOf x qual (dN st) (cS st) (aH st) .none kV doc pm an cdv ct),osl⟩)
  (c:PySem.W.codeIn K cdv qual=true) (k:PySem.W.keepIn K (.ref f)=true):Fun K x qual st f (PySem.W.fnOf x qual (dN st) (cS st) (aH st) .none kV doc pm an cdv ct):=⟨⟨oc,od,kV,doc,pm,an,cdv,ct,osl,rfl,l,c⟩,k⟩
end
theorem hu_of {A:Around} {k:Nat} (hr:Room k A):A.units+1<cLine:=Nat.lt_of_le_of_lt (Nat.add_le_add_left (by decide:1<=64) _) hr.units
theorem eS {n:Nat} (h:n<=1000):n<sizeLine:=Nat.lt_of_le_of_lt h (by decide)
section
variable {X:Cx}
theorem pv (i:Nat) {x:Str} {pos:Pos} (hN:X.N[i]?=some x:=by rfl) (hv:Vis X.env.scope x:=by first|exact Or.inl rfl|exact Or.inr (Or.inl rfl)|exact Or.inr (Or.inr rfl)) (hd:(x == ("__debug__":Str))=false:=by decide)
  (hcd:(x == ("__classdict__":Str))=false:=by decide):PE X (.Name x pos) (iE i):=pe_var hN hv hd hcd
end
theorem dH {A B:Prop} (h:B):if false=true then A else B:=by
 rw [if_neg Bool.false_ne_true]
 exact h
theorem eP {A B:Prop} (h:A):if true=true then A else B:=by
 rw [if_pos rfl]
 exact h
theorem eF {c A B:Prop} [Decidable c] (h1:c->A) (h2:¬ c->B):if c then A else B:=by
 by_cases h:c
 ·rw [if_pos h]
  exact h1 h
 ·rw [if_neg h]
  exact h2 h
theorem iteNS {c A B:Prop} [Decidable c] (hc:c) (h:B):if (!decide c)=true then A else B:=by
 rw [decide_eq_true hc]
 exact dH h
def aR (H H':Hp):Prop:=∀b o,H b=some o->H' b=some o
theorem aR.refl (H:Hp):aR H H:=fun _ _ h=>h
theorem aR.trans {H H1 H2:Hp} (a:aR H H1) (b:aR H1 H2):aR H H2:=fun c o h=>b c o (a c o h)
theorem aR.free {H H':Hp} (e:aR H H') {l:Addr} (h:H' l=Option.none):H l=Option.none:=by
 cases q:H l with
 | none=>rfl
 | some o=>
  rw [e l o q] at h
  cases h
theorem aR.seq {K:PySem.W.Frag} {H H':Hp} {a:Addr} {xs:List V} (e:aR H H') (h:SqL K H a xs):SqL K H' a xs:=by
 rcases h with (h|⟨o,h⟩)|h
 ·exact .inl (.inl (e _ _ h))
 ·exact .inl (.inr ⟨o,e _ _ h⟩)
 ·exact .inr h
end L2
set_option maxHeartbeats 4000000
namespace Hd
open PySem PyProof.Rows
section
variable {M:Model} {A:Around} {E:Value->Shared->Prop} {s:Shared}
def NoCtx (h:Addr) (hp:Heap):Prop:=∃oh fs,hp.get? h=some oh/\oh.data=.fields fs/\fs[2]?=some .none
theorem NoCtx.other {h h':Heap} {e:Addr} (x:NoCtx e h) (k:h'.get? e=h.get? e):NoCtx e h':=by
 obtain⟨o,fs,z,r⟩:=x
 exact⟨o,fs,k.trans z,r⟩
theorem AgZ {bs:Heap} {env:Env} {rest:List Env} {L e:Addr} {o:Obj} {fs:Array Value} {hd x0:Value} {nx:Bool} {Q:Unit->Shared->Prop}
  (frm:A.frames=some (env::rest)) (ff:s.heap.FunFrames bs (env::rest)) (fr:env.frame=some L) (ho:s.heap.get? e=some o) (st:bs.StaysIn s.heap) (hn:bs.get? e=none)
  (hf:o.data=.fields fs) (f0:fs[0]?=some x0) (f2:fs[2]?=some .none)
  (q:∀h',Heap.NotedW bs (env::rest) e o.cls x0 (rawInt L) s.heap h'->NoCtx e h'->Q () { s with heap:=h' }):
  wpAny M A (do let a <- frameOf env;let pl <- entryPlaceOf L nx;let b <- EntryCells.newEntry hd a .none (rawInt L) .none pl;setField (.ref e) 1 b) Q E s:=by
 have out:e ∉ (env::rest).filterMap (·.frame):=fun z=>by
  obtain⟨_,o',z',nf⟩:=ff.mem z
  rw [ho] at z'
  cases z'
  exact nf fs hf
 have big:2<fs.size:=(Array.getElem?_eq_some_iff.mp f2).1
 refine wpAny_bind (wpAny_frameOf_fun frm ff fr fun g so=>wpAny_bind (wpAny_entryPlaceOf fun pl isP=>?_))
 unfold EntryCells.newEntry newFields
 refine wpAny_bind (wpAny_newObj_type ?_ (isP.sizeOk5 _ _ _ _ _))
 generalize hr:([hd,Value.ref L,Value.none,rawInt L,Value.none]++(if pl.isEmpty then List.replicate 6 Value.none else pl)).toArray=row
 have row3:row[3]?=some (rawInt L):=by rw [<- hr];simp
 have hg:g.get? e=some o:=(so.2.1 e out).trans ho
 have gs:bs.StaysIn g:=fun b o' z=>(so.2.1 b fun w=>by rw [(ff.mem w).1] at z;cases z).trans (st b o' z)
 have far:g.objs.size≠e:=fun z=>absurd (Heap.lt_size hg) (by rw [z];exact Nat.lt_irrefl _)
 have hp:=Heap.get?_push_of_some (h:=g) { cls:=.type "traceback",dict:=none,data:=.fields row } hg
 refine wpAny_setField hp hf (by omega) ?_
 have hd3:=Obj.data_mapFields hf (·.setIfInBounds 1 (Value.ref g.objs.size))
 have he3:=Heap.get?_update_self (Obj.mapFields (·.setIfInBounds 1 (Value.ref g.objs.size))) hp (Obj.isFreed_of_fields hd3)
 have keep:∀b o',b≠e->g.get? b=some o'->((g.push { cls:=.type "traceback",dict:=none,data:=.fields row }).update e (Obj.mapFields (·.setIfInBounds 1 (Value.ref g.objs.size)))).get? b=some o':=fun b o' nb z=>by
  rw [Heap.get?_update_other _ _ (fun w=>nb w.symm)]
  exact Heap.get?_push_of_some _ z
 have nrec:∀b o',s.heap.get? b=some o'->(∀ws,o'.data≠.fields ws)->b≠e:=fun b o' z nf w=>by
  subst w
  rw [ho] at z
  cases z
  exact nf fs hf
 refine q _ ⟨fun b o' z=>keep b o' (fun w=>by rw [w,hn] at z;cases z) (gs b o' z),ff.of_keeps fun b o' z nf=>?_,?_,fun b o' z nf=>?_⟩ ⟨_,_,he3,hd3,by rw [Array.getElem?_setIfInBounds_ne (by decide)];exact f2⟩
 ·obtain⟨sl,w⟩:=so.2.2 b o' z
  exact⟨_,keep b _ (nrec b o' z nf) w,rfl⟩
 ·refine⟨_,fs.setIfInBounds 1 (.ref g.objs.size),g.objs.size,{ cls:=.type "traceback",dict:=none,data:=.fields row },row,he3,⟨Obj.cls_mapFields _ _,by rw [Array.getElem?_setIfInBounds_ne (by decide)];exact f0⟩,hd3,by rw [Array.getElem?_setIfInBounds_self,if_pos (by omega)],gs.fresh,far,?_,rfl,row3⟩
  rw [Heap.get?_update_other _ _ (Ne.symm far)]
  exact Heap.get?_push_size g rfl
 ·obtain⟨sl,w⟩:=so.2.2 b o' z
  exact⟨sl,keep b _ (nrec b o' z nf) w⟩
theorem note2 {bs:Heap} {env:Env} {rest:List Env} {L e:Addr} {cls x0:Value} {Q:Unit->Shared->Prop}
  (frm:A.frames=some (env::rest)) (fr:env.frame=some L) (fl:Heap.FlyingW bs (env::rest) e cls x0 s.heap) (nc:NoCtx e s.heap)
  (q:∀h',Heap.NotedW bs (env::rest) e cls x0 (rawInt L) s.heap h'->NoCtx e h'->Q () { s with heap:=h' }):wpAny M A (noteFrame (.ref e) env) Q E s:=by
 obtain⟨st,hn,ff,o,fs,T,oT,ts,ho,⟨hc,f0⟩,hf,f1,bT,ne,hT,dT,t3⟩:=fl
 obtain⟨o',fs',z1,z2,f2⟩:=nc
 rw [ho] at z1
 cases z1
 rw [hf] at z2
 cases z2
 subst hc
 unfold noteFrame
 simp only [fr]
 refine wpAny_bind (wpAny_field ho hf f1 ?_)
 rw [if_pos (by simp:(Value.ref T != Value.none)=true)]
 refine wpAny_bind (wpAny_field hT dT t3 ?_)
 rw [if_neg (by simp [rawInt]:¬ ((Value.none == rawInt L)=true))]
 refine wpAny_bind (wpAny_setField hT dT (Array.getElem?_eq_some_iff.mp t3).1 ?_)
 have oth:∀b,b≠T->(s.heap.update T (Obj.mapFields (·.setIfInBounds 3 Value.none))).get? b=s.heap.get? b:=fun b z=>Heap.get?_update_other _ _ (fun w=>z w.symm)
 have nrec:∀b o',s.heap.get? b=some o'->(∀ws,o'.data≠.fields ws)->b≠T:=fun b o' z nf w=>by
  subst w
  rw [hT] at z
  cases z
  exact nf ts dT
 refine AgZ frm (ff.of_keeps fun b o' z nf=>⟨o',(oth b (nrec b o' z nf)).trans z,rfl⟩) fr ((oth e (Ne.symm ne)).trans ho) (fun b o' z=>(oth b fun w=>by rw [w,bT] at z;cases z).trans (st b o' z)) hn hf f0 f2 fun h' ⟨x1,x2,x3,x4⟩ nc'=>?_
 exact q h' ⟨x1,x2,x3,fun b o' z nf=>x4 b o' ((oth b (nrec b o' z nf)).trans z) nf⟩ nc'
theorem set2 {bs:Heap} {l:List Env} {e:Addr} {cls x0 fl:Value} {Q:Unit->Shared->Prop} (st:bs.StaysIn s.heap) (ff:s.heap.FunFrames bs l) (tr:s.heap.TracedAtW bs e cls x0 fl) (nc:NoCtx e s.heap)
  (q:∀h',bs.StaysIn h'->h'.FunFrames bs l->h'.TracedW bs e cls x0->s.heap.UpToSlots h'->NoCtx e h'->Q () { s with heap:=h' }):wpAny M A (setFlight (.ref e) none) Q E s:=by
 obtain⟨o,fs,T,oT,ts,ho,hc,hf,f1,bT,ne,hT,dT,t3⟩:=tr
 have sz:3<ts.size:=(Array.getElem?_eq_some_iff.mp t3).1
 unfold setFlight
 refine wpAny_bind (wpAny_field ho hf f1 ?_)
 rw [if_pos (by simp:(Value.ref T != Value.none)=true)]
 refine wpAny_setField hT dT sz ?_
 have oth:∀b,b≠T->(s.heap.update T (Obj.mapFields (·.setIfInBounds 3 ((none:Option Addr).elim Value.none fun f=>rawInt f)))).get? b=s.heap.get? b:=fun b z=>Heap.get?_update_other _ _ (fun w=>z w.symm)
 have nrec:∀b o',s.heap.get? b=some o'->(∀ws,o'.data≠.fields ws)->b≠T:=fun b o' z nf w=>by
  subst w
  rw [hT] at z
  cases z
  exact nf ts dT
 have hd3:=Obj.data_mapFields dT (·.setIfInBounds 3 ((none:Option Addr).elim Value.none fun f=>rawInt f))
 refine q _ (fun b o' z=>(oth b fun w=>by rw [w,bT] at z;cases z).trans (st b o' z)) (ff.of_keeps fun b o' z nf=>⟨o',(oth b (nrec b o' z nf)).trans z,rfl⟩) ?_ (fun b o' z nf=>⟨o'.slots,(oth b (nrec b o' z nf)).trans z⟩) (nc.other (oth e (Ne.symm ne)))
 exact⟨o,fs,T,_,_,(oth e (Ne.symm ne)).trans ho,hc,hf,f1,bT,ne,Heap.get?_update_self _ hT (Obj.isFreed_of_fields hd3),hd3,by simp [sz]⟩
theorem upT {h h1 h2:Heap} (x:∀b o,h.get? b=some o->(∀vs,o.data≠.fields vs)->∃sl,h1.get? b=some { o with slots:=sl }) (y:h1.UpToSlots h2):h.UpToSlots h2:=Heap.UpToSlots.trans x y
theorem made2 {bs h:Heap} {env:Env} {rest:List Env} {L e:Addr} {cls:Value} {args:List Value} {Q:Unit->Shared->Prop} (frm:A.frames=some (env::rest)) (fr:env.frame=some L) (st:bs.StaysIn h) (ff:h.FunFrames bs (env::rest)) (hx:Heap.MadeExcOf h s.heap e cls args)
  (q:∀h' x0,Heap.FlyingW bs rest e cls x0 h'->s.heap.UpToSlots h'->NoCtx e h'->Q () { s with heap:=h' }):wpAny M A (leaving env (.ref e)) Q E s:=by
 obtain⟨t,he,_,_⟩:=hx.there
 have hn:bs.get? e=none:=by
  cases z:bs.get? e with
  | none=>rfl
  | some o=>
   have w:=st e o z
   rw [hx.new] at w
   cases w
 unfold leaving noteFrame
 simp only [fr]
 refine wpAny_bind (wpAny_bind (wpAny_field he rfl (x:=.none) rfl ?_))
 rw [if_neg (by decide)]
 refine AgZ frm (ff.of_keeps fun b o z _=>⟨o,hx.keeps b o z,rfl⟩) fr he (fun b o z=>hx.keeps b o (st b o z)) hn rfl rfl rfl fun h1 ⟨x1,x2,x3,x4⟩ nc1=>?_
 refine set2 (s:={ s with heap:=h1 }) x1 x2 x3 nc1 fun h2 y1 y2 y3 y4 nc2=>?_
 obtain⟨_,_,y2⟩:=y2
 exact q h2 _ ⟨y1,hn,y2,y3⟩ (upT x4 y4) nc2
theorem leave2 {bs:Heap} {env:Env} {rest:List Env} {L e:Addr} {cls x0:Value} {Q:Unit->Shared->Prop} (frm:A.frames=some (env::rest)) (fr:env.frame=some L) (fl:Heap.FlyingW bs (env::rest) e cls x0 s.heap) (nc:NoCtx e s.heap)
  (q:∀h',Heap.FlyingW bs rest e cls x0 h'->s.heap.UpToSlots h'->NoCtx e h'->Q () { s with heap:=h' }):wpAny M A (leaving env (.ref e)) Q E s:=by
 have hn:=fl.2.1
 unfold leaving
 refine wpAny_bind (note2 frm fr fl nc fun h1 ⟨x1,x2,x3,x4⟩ nc1=>?_)
 refine set2 (s:={ s with heap:=h1 }) x1 x2 x3 nc1 fun h2 y1 y2 y3 y4 nc2=>?_
 obtain⟨_,_,y2⟩:=y2
 exact q h2 ⟨y1,hn,y2,y3⟩ (upT x4 y4) nc2
theorem look2 {bs:Heap} {env:Env} {rest:List Env} {L e:Addr} {cls x0:Value} {Q:Unit->Shared->Prop} (frm:A.frames=some (env::rest)) (fr:env.frame=some L) (fl:Heap.FlyingW bs (env::rest) e cls x0 s.heap) (nc:NoCtx e s.heap)
  (q:∀h',Heap.HeldW bs (env::rest) e cls x0 L h'->s.heap.UpToSlots h'->NoCtx e h'->Q () { s with heap:=h' }):wpAny M A (noteFrame (.ref e) env) Q E s:=by
 have hn:=fl.2.1
 refine note2 frm fr fl nc fun h1 ⟨x1,x2,x3,x4⟩ nc1=>q h1 ⟨x1,hn,x2,x3⟩ x4 nc1
theorem land2 {bs:Heap} {l:List Env} {L e:Addr} {cls x0:Value} {Q:Unit->Shared->Prop} (hh:Heap.HeldW bs l e cls x0 L s.heap) (nc:NoCtx e s.heap)
  (q:∀h',Heap.FlyingW bs l e cls x0 h'->s.heap.UpToSlots h'->NoCtx e h'->Q () { s with heap:=h' }):wpAny M A (setFlight (.ref e) none) Q E s:=by
 obtain⟨x1,hn,x2,x3⟩:=hh
 exact set2 x1 x2 x3 nc fun h' y1 y2 y3 y4 nc2=>q h' ⟨y1,hn,y2,y3⟩ y4 nc2
theorem again2 {bs:Heap} {l:List Env} {e:Addr} {cls x0:Value} {Q:Unit->Shared->Prop} (hh:Heap.FlyingW bs l e cls x0 s.heap) (nc:NoCtx e s.heap)
  (q:∀h',Heap.FlyingW bs l e cls x0 h'->s.heap.UpToSlots h'->NoCtx e h'->Q () { s with heap:=h' }):wpAny M A (setFlight (.ref e) none) Q E s:=by
 obtain⟨x1,hn,x2,x3⟩:=hh
 exact set2 x1 x2 x3.at nc fun h' y1 y2 y3 y4 nc2=>q h' ⟨y1,hn,y2,y3⟩ y4 nc2
end
end Hd
namespace L2
open PySem PySem.Spec PyProof.Rows
theorem cL.is {P:Program} {w:World} {H:Hp} {h:Heap} {a:Addr} {o:HO} (x:cL P w H h a o):∃ob,h.get? a=some ob:=by
 cases o with
 | lst xs=>obtain⟨_,_,_,_,q⟩:=x;exact⟨_,q⟩
 | tup xs=>obtain⟨_,_,_,ob,q,_⟩:=x;exact⟨_,q⟩
 | dK kvs=>obtain⟨_,_,_,_,ob,_,_,q,_⟩:=x;exact⟨_,q⟩
 | dT kvs=>obtain⟨_,_,_,_,ob,_,_,q,_⟩:=x;exact⟨_,q⟩
 | set S n=>obtain⟨ob,_,_,_,q,_⟩:=x;exact⟨_,q⟩
 | ins C dx fs=>obtain⟨_,_,_,q,_⟩:=x;exact⟨_,q⟩
 | own y=>exact x
 | xd fs=>obtain⟨_,⟨_,_,_,q,_⟩,_⟩:=x;exact⟨_,q⟩
 | rng lo hi=>obtain⟨_,_,_,q⟩:=x;exact⟨_,q⟩
 | frz ob u=>obtain⟨q,_⟩:=x;exact⟨_,q⟩
 | tbl ps=>exact⟨_,(show h.get? a=some _ from x)⟩
 | met f y=>exact⟨_,(show h.get? a=some _ from x)⟩
 | ext φ=>obtain⟨_,q,_⟩:=x;exact q
structure Fly (P:Program) (w:World) (outer:List Env) (H:Hp) (h:Heap) (ea:Addr) (cls a0:Value) (H':Hp) (B h':Heap):Prop where
 fly:Heap.FlyingW B outer ea cls a0 h'
 nc:Hd.NoCtx ea h'
 hok:HOk P w H' B
 new:h.get? ea=none
 keepB:∀b o,h.get? b=some o->H b=none->b ∉ frs outer->B.get? b=some o
 slot:∀b o,h.get? b=some o->b ∈ frs outer->∃sl,h'.get? b=some { o with slots:=sl }
 free:∀b o,h.get? b=some o->H b=none->H' b=none
 thereB:∀b o,h.get? b=some o->b ∉ frs outer->∃o',B.get? b=some o'
 tups:∀b xs,H b=some (.tup xs)->H' b=some (.tup xs)
 frzs:∀b o u,H b=some (.frz o u)->H' b=some (.frz o u)
 tbls:∀b ps,H b=some (.tbl ps)->∃more,H' b=some (.tbl (ps++more))
section
variable {P:Program} {w:World} {outer:List Env} {H H':Hp} {h h' h2 B:Heap} {ea:Addr} {cls a0:Value}
theorem Fly.freeE (F:Fly P w outer H h ea cls a0 H' B h'):H' ea=none:=by
 cases q:H' ea with
 | none=>rfl
 | some o=>
  obtain⟨ob,z⟩:=(F.hok ea o q).is
  rw [F.fly.2.1] at z
  cases z
theorem Fly.later (F:Fly P w outer H h ea cls a0 H' B h') (fl:Heap.FlyingW B outer ea cls a0 h2) (nc:Hd.NoCtx ea h2) (up:h'.UpToSlots h2):Fly P w outer H h ea cls a0 H' B h2 where
 fly:=fl
 nc:=nc
 hok:=F.hok
 new:=F.new
 keepB:=F.keepB
 slot:=fun b o q hb=>by
  obtain⟨sl,z⟩:=F.slot b o q hb
  obtain⟨_,o',z',nf⟩:=F.fly.2.2.1.mem hb
  rw [z] at z'
  cases z'
  obtain⟨sl',z2⟩:=up b _ z nf
  exact⟨sl',z2⟩
 free:=F.free
 thereB:=F.thereB
 tups:=F.tups
 frzs:=F.frzs
 tbls:=F.tbls
theorem Fly.un (F:Fly P w outer H h ea cls a0 H' B h'):Un (frs outer) [] H H' h h' where
 keep:=fun b o q n hb _=>F.fly.1 b o (F.keepB b o q n hb)
 slot:=fun b o q _ hb _=>F.slot b o q hb
 free:=fun b o q n _=>F.free b o q n
 there:=fun b o q _=>by
  by_cases hb:b ∈ frs outer
  ·obtain⟨sl,z⟩:=F.slot b o q hb
   exact⟨_,z⟩
  ·obtain⟨o',z⟩:=F.thereB b o q hb
   exact⟨o',F.fly.1 b o' z⟩
 tups:=F.tups
 frzs:=F.frzs
 tbls:=F.tbls
theorem Fly.hokN (F:Fly P w outer H h ea cls a0 H' B h'):HOk P w H' h':=F.hok.kept F.fly.1
end
def CXE (P:Program) (w:World):CXT:=fun outer H s E e s'=>∃(ea:Addr) (cls a0:Value) (H':Hp) (B:Heap),
 e=Value.ref ea/\s'.os=s.os/\AllBare s'.gens/\Fly P w outer H s.heap ea cls a0 H' B s'.heap/\E cls none H'
def xN (X:Cx) (C:Addr) (R:Hp->Prop):Prop:=
 ∀(pins:List (Addr × Obj)) (σ:St) (H:Hp) (s:Shared) (h':Heap) (e:Addr) (vs:List Value),Inv X pins σ H s->Heap.MadeExcOf s.heap h' e (.ref C) vs->R H->X.xe (.ref e) { s with heap:=h' }
theorem rC {env:Env} {outer:List Env} {L:Addr} (hf:env.frame=some L):frs (env::outer)=L::frs outer:=by
 unfold frs
 rw [List.filterMap_cons,hf]
section
variable {P:Program} {w:World} {K:PySem.W.Frag} {mg:Str->Option Value} {base:Heap} {N:List Str} {qual:Str} {scope:Scope} {f:Addr} {cd:Value} {A:Around} {outer:List Env} {s₀:Shared} {H₀:Hp} {E:XK}
theorem jB {C:Addr}:xN (jV (CXE P w) P w K mg base N qual scope f cd A outer s₀ H₀ E) C (fun H=>E (.ref C) none H):=by
 intro pins σ H s h' e vs I hx hE
 have stk:s.heap.FunFrames (PySem.W.hideAll s.heap (frs (envOfC qual scope s₀.heap.objs.size f cd::outer))) (envOfC qual scope s₀.heap.objs.size f cd::outer):=
  PySem.W.funFrames_hide I.stack fun env he a ha=>List.mem_filterMap.mpr ⟨env,he,ha⟩
 have nof:∀b,(H b).isSome=true->b ∉ frs (envOfC qual scope s₀.heap.objs.size f cd::outer):=fun b hb z=>by
  rw [I.stkFree b z] at hb
  cases hb
 have low:∀b o,s₀.heap.get? b=some o->b ∉ frs outer->b ∉ frs (envOfC qual scope s₀.heap.objs.size f cd::outer):=fun b o q hb z=>by
  rw [rC (L:=s₀.heap.objs.size) rfl] at z
  rcases List.mem_cons.mp z with z|z
  ·rw [z] at q
   exact absurd (Heap.lt_size q) (Nat.lt_irrefl _)
  ·exact hb z
 show wpAny _ _ (leaving _ (.ref e)) _ _ _
 refine Hd.made2 (bs:=PySem.W.hideAll s.heap (frs (envOfC qual scope s₀.heap.objs.size f cd::outer))) (h:=s.heap) (rest:=outer) I.ok.frames rfl (fun b o q=>PySem.W.of_hideAll _ q) stk hx fun h2 t x1 x4 xn=>?_
 refine⟨e,.ref C,t,H,_,rfl,I.os,I.bare,⟨x1,xn,fun a o q=>?_,?_,fun b o q n hb=>?_,fun b o q hb=>?_,fun b o q n=>I.base.free b o q n (by intro z;cases z),fun b o q hb=>?_,I.base.tups,I.base.frzs,I.base.tbls⟩,hE⟩
 ·refine(I.hok a o q).stay (fun b u hb r=>PySem.W.hideAll_get _ r (nof b ?_)) (fun _ z=>z) fun _ _ z=>z
  rcases hb with rfl|hb
  ·rw [q];rfl
  ·rw [hb];rfl
 ·cases q:s₀.heap.get? e with
  | none=>rfl
  | some o=>
   obtain⟨o',z⟩:=I.base.there e o q (by intro z;cases z)
   rw [hx.new] at z
   cases z
 ·exact PySem.W.hideAll_get _ (I.base.keep b o q n hb (by intro z;cases z)) (low b o q hb)
 ·obtain⟨sl,z⟩:=I.base.slot b o q (I.ok.frf b hb) hb (by intro z;cases z)
  obtain⟨_,o',z',nf⟩:=I.funs.mem hb
  rw [z] at z'
  cases z'
  obtain⟨sl',z2⟩:=x4 b _ (hx.keeps b _ z) nf
  exact⟨sl',z2⟩
 ·obtain⟨o',z⟩:=I.base.there b o q (by intro z;cases z)
  exact⟨o',PySem.W.hideAll_get _ z (low b o q hb)⟩
theorem AcK {E':XK} (hE:∀cls d H,E' cls d H->E cls d H):iQ (CXE P w) (jV (CXE P w) P w K mg base N qual scope f cd A outer s₀ H₀ E) E':=by
 intro pins σ H s e s' I hc
 obtain⟨ea,cls,a0,H',B,rfl,os,bare,F,hE'⟩:=hc
 have low:∀b o,s₀.heap.get? b=some o->b ∉ frs outer->b ∉ frs (envOfC qual scope s₀.heap.objs.size f cd::outer):=fun b o q hb z=>by
  rw [rC (L:=s₀.heap.objs.size) rfl] at z
  rcases List.mem_cons.mp z with z|z
  ·rw [z] at q
   exact absurd (Heap.lt_size q) (Nat.lt_irrefl _)
  ·exact hb z
 have up:∀b,b ∈ frs outer->b ∈ frs (envOfC qual scope s₀.heap.objs.size f cd::outer):=fun b hb=>by
  rw [rC (L:=s₀.heap.objs.size) rfl]
  exact List.mem_cons_of_mem _ hb
 show wpAny _ _ (leaving _ (.ref ea)) _ _ _
 refine Hd.leave2 (rest:=outer) I.ok.frames rfl F.fly F.nc fun h2 x1 x4 xn=>?_
 refine⟨ea,cls,a0,H',B,rfl,os.trans I.os,bare,⟨x1,xn,F.hok,?_,fun b o q n hb=>?_,fun b o q hb=>?_,fun b o q n=>?_,fun b o q hb=>?_,fun b xs q=>F.tups b xs (I.base.tups b xs q),fun b o u q=>F.frzs b o u (I.base.frzs b o u q),fun b ps q=>?_⟩,hE _ _ _ hE'⟩
 ·cases q:s₀.heap.get? ea with
  | none=>rfl
  | some o=>
   obtain⟨o',z⟩:=I.base.there ea o q (by intro z;cases z)
   rw [F.new] at z
   cases z
 ·exact F.keepB b o (I.base.keep b o q n hb (by intro z;cases z)) (I.base.free b o q n (by intro z;cases z)) (low b o q hb)
 ·obtain⟨sl,z⟩:=I.base.slot b o q (I.ok.frf b hb) hb (by intro z;cases z)
  obtain⟨sl2,z2⟩:=F.slot b _ z (up b hb)
  obtain⟨_,o',z',nf⟩:=F.fly.2.2.1.mem (up b hb)
  rw [z2] at z'
  cases z'
  obtain⟨sl',z3⟩:=x4 b _ z2 nf
  exact⟨sl',z3⟩
 ·obtain⟨o',z⟩:=I.base.there b o q (by intro z;cases z)
  exact F.free b o' z (I.base.free b o q n (by intro z;cases z))
 ·obtain⟨o',z⟩:=I.base.there b o q (by intro z;cases z)
  exact F.thereB b o' z (low b o q hb)
 ·obtain⟨m1,z⟩:=I.base.tbls b ps q
  obtain⟨m2,z2⟩:=F.tbls b _ z
  exact⟨m1++m2,by rw [z2,Array.append_assoc]⟩
end
abbrev AdT:List Value:=[.type "ValueError",.type "Exception",.type "BaseException",.type "object"]
def ExcIs (K:PySem.W.Frag) (C:Addr):Prop:=PySem.W.excIn K C AdT "ValueError.__new__"=true
theorem AdJ {K:PySem.W.Frag} {h:Heap} {C:Addr} (X:K.In h) (q:ExcIs K C):
  ∃bm N nm qn bs hdct sn sub ab col dd k0 k1 k2 k3 k5 mN,h.get? C=some (excClassObj nm qn C N bs bm hdct sn sub ab col dd k0 k1 k2 k3 k5 "ValueError.__new__")/\h.Ns N mN/\mN "__init__"=none/\OwnTail h AdT bm:=by
 unfold ExcIs PySem.W.excIn at q
 split at q
 ·next dd cd sl ho=>
  split at q
  ·next C' bm k0 k1 k2 k3 n k5 hm hs=>
   simp only [Bool.and_eq_true,beq_iff_eq,Bool.not_eq_true'] at q
   obtain⟨⟨⟨⟨⟨e1,e2⟩,e3⟩,e4⟩,e5⟩,e6⟩:=q
   subst e1
   subst e2
   obtain⟨nm,bs,mro,ns,qn,hd,sn,sub,ab,col,del⟩:=cd
   dsimp only at hm e3 e5 e6
   subst hm
   subst e3
   have hsl:sl=#[k0,k1,k2,k3,some (.builtin "ValueError.__new__"),k5]:=by
    cases sl with
    | mk l=>
     have hs':l=[k0,k1,k2,k3,some (.builtin "ValueError.__new__"),k5]:=hs
     rw [hs']
   subst hsl
   exact⟨bm,ns,nm,qn,bs,hd,sn,sub,ab,col,dd,k0,k1,k2,k3,k5,_,X _ _ ho,.of_isNs (PySem.W.isNs_of_in X e5),PySem.W.nsMap_none_of_in X e5 e6,PySem.W.tail_of_in X e4⟩
  ·cases q
 ·cases q
section
variable {X:Cx} {x:Str} {C:Addr} {R:Hp->Prop} {e₀:Expr} {ta:TA} {np cpos pos:Pos}
def tRaise (ta:TA) (R:Hp->Prop):TS:=fun _ σ H=>ta σ H fun vs H1=>vs.length<=sizeLine/\R H1
theorem qI (hc:X.calm=true) (EC:ExcIs X.K C) (hg:Gl X x) (hm:X.mg x=some (.ref C)) (hR:xN X C R) (ha:PA X [e₀] ta)
  (he:starEach [e₀] X.env=[(false,eval e₀ X.env)]:=by rfl) (hd:(x == ("__debug__":Str))=false:=by decide):
  PS X (.Raise (some (.Call (.Name x np) [e₀] [] cpos)) none pos) (tRaise ta R):=by
 intro pins s σ H D I h
 obtain⟨tl,N,nm,q,bs,hdct,sn,sub,ab,col,dd,k0,k1,k2,k3,k5,mN,hC,hN,hni,T⟩:=AdJ I.mod.kin EC
 refine wpAny_Raise_call_subT (C:=C) (nm:=nm) (q:=q) (N:=N) (bs:=bs) (bm:=tl) (hdct:=hdct) (sn:=sn) (sub:=sub) (ab:=ab) (col:=col) (dd:=dd) (k0:=k0) (k1:=k1) (k2:=k2) (k3:=k3) (k5:=k5)
  PySem.F.excBase_ValueError (mN:=mN) (T.hasType PySem.F.excBase_ValueError.hasBase) (I.ok.hd hc) (by rw [he];rfl) hni (gP I hg hm ⟨rfl,?_⟩ hd)
 have key:=@ha cpos pins s σ H _ I h
 rw [he] at key ⊢
 refine Calls.evalArgs_plain (wpAny_mono key (fun us s2 hq=>?_) fun _ _ z=>z)
 obtain⟨vs,H1,I1,rv,hl,hR1⟩:=hq
 refine⟨rfl,?_,I1.bk _ _ hC,hN.keeps I1.bk,T.keeps I1.bk,fun h' e hx=>hR pins σ H1 s2 h' e _ I1 hx hR1⟩
 show us.length<=sizeLine
 rw [<- rv.length]
 exact hl
end
end L2
namespace L2
open PySem PySem.Spec PyProof.Rows PySem.W PySem.Calls Builtin Builtin.ObjectAttr Builtin.Getset_descriptor
structure vI (K:Frag) (C:Addr):Prop where
 exc:ExcIs K C
 cl:(clsIn K C).isSome=true
 ga:findIn K (.ref C) "__getattribute__"=some (some (.builtin "BaseException.__getattribute__"))
 gh:findIn K (.ref C) "__getattr__"=some none
 ca:findIn K (.ref C) "__class__"=some (some (.builtin "object.__class__"))
 cg:specialIn K (.builtin "object.__class__") "__get__"=some (some (.builtin "getset_descriptor.__get__"))
 ct:takesIn K (.builtin "object.__class__")=some true
 mo:mroIn K C (.type "object")=some true
 mb:mroIn K C (.type "BaseException")=some true
def jZ (e C:Addr) (h:Heap):Prop:=∃o,h.get? e=some o/\o.cls=.ref C
section
variable {K:Frag} {e C:Addr}
theorem jZ.ty {M:Model} {h:Heap} (p:jZ e C h):Looks M h (typeOf (.ref e)) (.ref C):=by
 obtain⟨o,h1,h2⟩:=p
 exact h2 ▸ (Looks.ld h1).andThen .now
theorem AdK {M:Model} {h:Heap} (X:K.In h) (T:vI K C):Looks M h (find (.ref e) (.ref C) "__class__") (.bind (.builtin "getset_descriptor.__get__") (.builtin "object.__class__")):=by
 have L1:=looks_findIn (M:=M) X T.ca
 have L2:=looks_specialIn (M:=M) X T.cg
 have L3:=looks_takesIn (M:=M) X T.ct
 refine L1.andThen (L2.andThen ?_)
 exact(show Looks M h (dataDescriptor? (some _) (some _)) (some (_,_)) from L3.andThen .now).andThen (Looks.tag .now)
variable {prog:Program} {w:World} {A:Around} {E:Value->Shared->Prop} {s:Shared} {R:Result->Shared->Prop}
theorem rX {tp:Value} (X:K.In s.heap) (T:vI K C) (p:jZ e C s.heap) (h:R (.ok (.ret (.ref C))) s):
  codeAny (model prog w) A (.call (.builtin "getset_descriptor.__get__") ⟨[.builtin "object.__class__",.ref e,tp],[]⟩) R s:=by
 obtain⟨hh,g,dr,t,os⟩:=s
 have La:=p.ty (M:=model prog w)
 have Lb:=looks_mroIn (M:=model prog w) X T.mo
 refine codeAny_call_builtin KF.slot_gs.plain KF.entry_gs (KF.slot_gs.check _ _ _ _ _ _ _ _ KF.type_class (KF.args_gs _ _ _) ?_)
 unfold Builtin.«getset_descriptor.__get__» descrGet
 rw [dga_obj]
 refine wpAny_bind (wpAny_pure ?_)
 unfold descrGetter descrCheckInstance descrNameAndClass isInstance
 simp only [KF.owner_class]
 repeat lk
 refine⟨Code.quiet_builtin _ (by decide +kernel),codeAny_builtin KF.entry_class ?_⟩
 unfold Builtin.«object.__class__» shownTypeOf
 repeat lk
 exact h
end
section
variable {K:Frag} {e C:Addr} {prog:Program} {w:World} {A:Around} {E:Value->Shared->Prop} {s:Shared} {R:Result->Shared->Prop}
theorem uZ {M:Model} {nameV:Value} {Q:Unit->Shared->Prop} (X:K.In s.heap) (T:vI K C) (p:jZ e C s.heap) (hq:Q () s):
  wpAny M A (checkBuiltinCall "BaseException.__getattribute__" ⟨[.ref e,nameV],[]⟩) Q E s:=by
 have hk:builtinKind "BaseException.__getattribute__"=some .slot:=by decide +kernel
 have hsp:splitId "BaseException.__getattribute__"=some ("BaseException","__getattribute__"):=by decide +kernel
 have ha:=F.args_bexc_ga (.ref e) nameV
 have Li:Looks M s.heap (isInstance (.ref e) (.type "BaseException")) true:=p.ty.andThen (looks_mroIn X T.mb)
 obtain⟨hh,g,dr,t,os⟩:=s
 simp only [checkBuiltinCall,hk,hsp]
 refine wpAny_bind (Li.at ?_)
 repeat (first|wp_step)
 exact hq
theorem wZ {tk:Tok} {Q:Fin->Shared->Prop} (X:K.In s.heap) (T:vI K C) (p:jZ e C s.heap) (hq:Q (.done (.ret (.ref C))) s):
  wpAny (model prog w) A (Builtin.«object.__getattribute__» ⟨[.ref e,.str "__class__" tk],[]⟩) Q E s:=by
 have La:=p.ty (M:=model prog w)
 have Lf:=AdK (M:=model prog w) (e:=e) X T
 obtain⟨hh,g,dr,t,os⟩:=s
 unfold Builtin.«object.__getattribute__»
 repeat (first|with_reducible refine La.at ?_|with_reducible refine Lf.at ?_|wp_step)
 refine rX X T p ?_
 exact wpAny_pure hq
theorem uY {Q:Option Value->Shared->Prop} (X:K.In s.heap) (T:vI K C) (p:jZ e C s.heap) (h:Q (some (.ref C)) { s with toks:=s.toks+1 }):
  wpAny (model prog w) A (getAttr? (.ref e) "__class__") Q E s:=by
 have La:=p.ty (M:=model prog w)
 have Lga:=looks_findIn (M:=model prog w) X T.ga
 have Lgh:=looks_findIn (M:=model prog w) X T.gh
 have f3:=F.attr_ValueError.ga.bind (.ref e)
 have hx2:(Value.builtin "BaseException.__getattribute__" == Value.builtin "object.__getattribute__")=false:=by decide +kernel
 obtain⟨hh,g,dr,t,os⟩:=s
 unfold getAttr? getAttrBy? getAttrBy
 refine wpAny_bind (wpAny_mkText (wpAny_bind (wpAny_attempt (wpAny_holding (wpAny_bind (La.at (wpAny_bind (Lga.at ?_))))))))
 dsimp only
 rw [if_neg (by rw [hx2];simp)]
 unfold getAttrByItsOwn hookBefore
 refine wpAny_bind (Lgh.at ?_)
 refine wpAny_bind (wpAny_attempt (wpAny_holding ?_))
 unfold callGetattribute boundAndCalled
 rw [if_neg (by simp)]
 rw [f3]
 refine wpAny_bind (wpAny_pure ?_)
 refine wpAny_call (codeAny_call_builtin F.attr_ValueError.ga.plain F.entry_bexc_ga (uZ X T p (wZ X T p ?_)))
 refine wpAny_pure (wpAny_pure ?_)
 exact h
theorem AgH (T:vI K C):KitX K (.ref e) (.ref C) (jZ e C) where
 ty:=fun _ _ _ p=>p.ty
 it:=fun _ _ X _=>by
  have z0:=T.cl
  unfold clsIn at z0
  split at z0
  ·next c' d' cd' sl' ho=>
   intro A' Q' E' s' k q
   unfold isType loadHead
   exact wpAny_bind (wpAny_loadPart (k _ _ (X _ _ ho)) (wpAny_pure q))
  ·cases z0
 ne:=fun h tp dd its n sl X htp=>by
  have z0:=T.cl
  refine Bool.eq_false_iff.mpr fun q=>?_
  have eq:C=tp:=Value.ref.inj (beq_iff_eq.mp q)
  subst eq
  unfold clsIn at z0
  split at z0
  ·next c' d' cd' sl' ho=>
   have z:=(X _ _ ho).symm.trans htp
   cases z
  ·cases z0
 ca:=fun X p k=>uY X T p k
end
def jU (e C:Addr):HO:=.ext fun hp=>jZ e C hp/\Hd.NoCtx e hp
theorem excO_ok {P:Program} {w:World} {H:Hp} {h:Heap} {e C:Addr} (p:jZ e C h) (n:Hd.NoCtx e h):cL P w H h e (jU e C):=by
 refine⟨⟨p,n⟩,?_,fun h1 h2 q k=>?_⟩
 ·obtain⟨o,z,_⟩:=p
  exact⟨o,z⟩
 ·obtain⟨⟨o,z,c⟩,o',fs,z',r⟩:=q
  exact⟨⟨o,k o z,c⟩,o',fs,k o' z',r⟩
section
variable {X:Cx}
inductive IsC:V->Value->Prop where
 | ty (n:String):IsC (.ty n) (.type n)
 | ref (a:Addr):IsC (.ref a) (.ref a)
def gG (K:PySem.W.Frag):List V->Hp->VK->Prop:=fun xs H Q=>∃x y c b,xs=[x,y]/\IsC y c/\((∃t,iP K H x t/\PySem.W.kitOne K t c=some b)\/∃e C,x=.ref e/\H e=some (jU e C)/\vI K C/\PySem.W.kitOne K (.ref C) c=some b)/\Q (.bl b) H
theorem aW:iS X (.builtin "isinstance") (gG X.K):=by
 intro pins s σ H xs us Q I r h
 obtain⟨x,y,c,b,rfl,ry,hh,q⟩:=h
 obtain⟨u,v,rfl,rx,rv⟩:=vals2 r
 have ec:v=c:=by
  cases ry with
  | ty n=>exact rv
  | ref a=>exact rv
 subst ec
 rcases hh with ⟨t,ty,e⟩|⟨ea,C,rfl,he,T,e⟩
 ·exact AdG I rx ty e fun tk=>⟨.bl b,H,I.tok tk,rfl,q⟩
 ·cases (show u=Value.ref ea from rx)
  obtain⟨⟨p,_⟩,_⟩:=(show cL X.prog X.w H s.heap ea (jU ea C) from I.hok ea _ he)
  exact kia_one (AgH T) I.kIn p e (fun z=>nomatch z) fun tk=>⟨.bl b,H,I.tok tk,rfl,q⟩
end
end L2
namespace L2
open PySem PySem.Spec PyProof.Rows
theorem Inv.re {X Y:Cx} {pins pins':List (Addr × Obj)} {σ:St} {H:Hp} {s:Shared} (I:Inv X pins σ H s) (ok:Y.Ok) (e1:Y.prog=X.prog) (e2:Y.w=X.w) (e3:Y.N=X.N) (e4:Y.s₀=X.s₀) (e5:Y.H₀=X.H₀) (e6:Y.env=X.env) (e7:Y.outer=X.outer) (e8:Y.ex=X.ex)
  (hp:∀p ∈ Y.pn++pins',p ∈ X.pn++pins):Inv Y pins' σ H s:=by
 obtain⟨prog,w,K,mg,base,A,N,s₀,H₀,env,outer,stack,ex,fn,calm,pn,xe⟩:=X
 obtain⟨prog',w',K',mg',base',A',N',s₀',H₀',env',outer',stack',ex',fn',calm',pn',xe'⟩:=Y
 dsimp only at e1 e2 e3 e4 e5 e6 e7 e8
 subst e1 e2 e3 e4 e5 e6 e7 e8
 exact⟨ok,I.os,I.bare,I.base,I.loc,I.cell,I.free,I.freeC,fun p z=>I.pin p (hp p z),I.hok,I.len⟩
abbrev Cx.try_ (X:Cx) (pn:List (Addr × Obj)) (xe:Value->Shared->Prop):Cx:={ X with pn:=pn,xe:=xe }
abbrev Cx.suite (X:Cx) (e:Value):Cx:={ X with A:=X.A.mark (some e),calm:=false,xe:=fun _ _=>False }
theorem Cx.Ok.try_ {X:Cx} (ok:X.Ok) (pn:List (Addr × Obj)) (xe:Value->Shared->Prop):(X.try_ pn xe).Ok:=
 ⟨ok.mod,ok.kind,ok.glob,ok.blt,ok.above,ok.inj,ok.has,ok.cab,ok.hd,ok.frames,ok.stk,ok.exf,ok.bs,ok.bsz,ok.noex,ok.exfs,ok.funs,ok.frf⟩
theorem Cx.Ok.suite {X:Cx} (ok:X.Ok) (e:Value):(X.suite e).Ok:=
 ⟨ok.mod,ok.kind,ok.glob,ok.blt,ok.above,ok.inj,ok.has,ok.cab,fun z=>(nomatch z),ok.frames,ok.stk,ok.exf,ok.bs,ok.bsz,ok.noex,ok.exfs,ok.funs,ok.frf⟩
theorem Fly.laid {P:Program} {w:World} {outer:List Env} {H H':Hp} {h h' B:Heap} {ea C:Addr} {a0:Value} (F:Fly P w outer H h ea (.ref C) a0 H' B h'):
  Un (frs outer) [] H (upd H' ea (jU ea C)) h h'/\HOk P w (upd H' ea (jU ea C)) h':=by
 have nu:=F.un
 have fe:=F.freeE
 refine⟨⟨nu.keep,nu.slot,fun b o q n hx=>?_,nu.there,fun b xs q=>?_,fun b o u q=>?_,fun b ps q=>?_⟩,fun b u q=>?_⟩
 ·rw [aG (fun z=>by rw [z,F.new] at q;cases q)]
  exact nu.free b o q n hx
 ·have z:=nu.tups b xs q
  rw [aG (aF z fe)]
  exact z
 ·have z:=nu.frzs b o u q
  rw [aG (aF z fe)]
  exact z
 ·obtain⟨m,z⟩:=nu.tbls b ps q
  exact⟨m,by rw [aG (aF z fe)];exact z⟩
 ·by_cases hb:b=ea
  ·subst hb
   rw [aD] at q
   cases q
   obtain⟨o,z,c⟩:=F.fly.there
   exact excO_ok ⟨o,z,c⟩ F.nc
  ·rw [aG hb] at q
   exact(F.hokN b u q).stay (fun _ _ _ z=>z) (fun c z=>by rw [aG (aF z fe)];exact z) fun c xs z=>by rw [aG (aF z fe)];exact z
section
variable {X:Cx}
theorem jR {A:Around} {E:Value->Shared->Prop} {pins:List (Addr × Obj)} {σ:St} {H:Hp} {s:Shared} {i:Nat} {x:Str} {pos:Pos} {Q:Unit->Shared->Prop} (I:Inv X pins σ H s) (hN:X.N.Nodup) (hi:X.N[i]?=some x) (hx:X.env.scope.names.lookup x=some .local)
  (h:∀s',Inv X pins (σ.set i none) H s'->Q () s'):wpAny (model X.prog X.w) A (do bindName X.env x .none;unbindBehindTheSuite X.env x pos) Q E s:=by
 obtain⟨m,hn,hl⟩:=id I.loc
 have hcls:(X.env.scope.kind == .class || (X.env.scope.kind == .module && X.env.locals != X.env.globals))=false:=by rw [I.ok.kind];rfl
 refine wpAny_nameGoes_keeps hx hn hcls fun h' v hn' hs=>?_
 obtain⟨oL,_,_,hoL,_⟩:=id hn
 have neL:∀b o,X.s₀.heap.get? b=some o->b≠X.env.locals:=fun b o q=>Nat.ne_of_lt (Nat.lt_of_lt_of_le (Heap.lt_size q) I.ok.above)
 refine h _ ⟨I.ok,I.os,I.bare,⟨fun b o q n hb he=>(hs.2 b (neL b o q)).trans (I.base.keep b o q n hb he),fun b o q n hb he=>?_,I.base.free,fun b o q he=>?_,I.base.tups,I.base.frzs,I.base.tbls⟩,
  ⟨_,hn',fun j y v' e1 e2 e3=>?_⟩,fun y c q=>?_,I.free,I.freeC,fun p hp=>?_,fun b ob q=>?_,by simpa using I.len⟩
 ·obtain⟨sl,z⟩:=I.base.slot b o q n hb he
  exact⟨sl,(hs.2 b (neL b o q)).trans z⟩
 ·obtain⟨o',z⟩:=I.base.there b o q he
  exact⟨o',(hs.2 b (neL b o q)).trans z⟩
 ·by_cases hj:j=i
  ·subst hj
   have hiσ:j<σ.length:=by rw [I.len];exact(List.getElem?_eq_some_iff.mp hi).1
   rw [List.getElem?_set_self hiσ] at e2
   cases e2
  ·rw [List.getElem?_set_ne (Ne.symm hj)] at e2
   obtain⟨u',r',z⟩:=hl j y v' e1 e2 e3
   refine⟨u',r',?_⟩
   rcases z with ⟨k,z⟩|⟨k,c,z,z2⟩
   ·refine .inl ⟨k,?_⟩
    have ny:y≠x:=fun w=>hj (qS hN e1 (w ▸ hi))
    show (if y=x then v else m y)=some u'
    rw [if_neg ny]
    exact z
   ·exact .inr ⟨k,c,z,z2.sameBut hs (I.cne y c z)⟩
 ·obtain⟨w',z⟩:=I.cell y c q
  exact⟨w',z.sameBut hs (I.cne y c q)⟩
 ·obtain⟨e,n,ne,nf,d⟩:=I.pin p hp
  exact⟨(hs.2 p.1 ne).trans e,n,ne,nf,d⟩
 ·refine(I.hok b ob q).stay (fun c w' hc r=>(hs.2 c ?_).trans r) (fun _ r=>r) fun _ _ r=>r
  rintro rfl
  rcases hc with rfl|hc
  ·rw [I.free] at q;cases q
  ·rw [I.free] at hc;cases hc
end
abbrev Cx.blk (X:Cx) (NB:List Str) (scope:Scope) (C:Addr) (s:Shared) (H:Hp) (fp:List Addr) (pn:List (Addr × Obj)):Cx:=
 { X with N:=NB,s₀:=s,H₀:=H,env:=compEnv scope C X.env,outer:=X.stack,ex:=fp,fn:=fun _=>false,pn:=pn,xe:=fun _ _=>False }
def PTs (Y:Cx) (ifs:List Expr) (t:TT):Prop:=
 ∀ ⦃pins:List (Addr × Obj)⦄ (s:Shared) (σ:St) (H:Hp) (Q:Bool->Hp->Prop),Inv Y pins σ H s->t σ H Q ->
  wpAny (model Y.prog Y.w) Y.A (forIn ifs true fun c r=>if r=true then do let ok <- isTrue c Y.env (eval c Y.env);pure (ForInStep.yield ok) else pure (ForInStep.yield r)) (TP Y pins σ Q) Y.xe s
def tYes:TT:=fun _ H Q=>Q true H
theorem gN {Y:Cx}:PTs Y [] tYes:=fun _ _ _ H _ I h=>wpAny_tests_nil ⟨H,I,h⟩
theorem jP {Y:Cx} {c:Expr} {t:TT} (h:PT Y c t):PTs Y [c] t:=fun pins s σ H Q I hq=>wpAny_tests_one (h s σ H Q I hq)
def tComp (nB:Nat) (wi:TI) (g:TG) (tc:TT) (te:TE):TE:=fun σ H Q=>wi σ H fun J H1=>∀acc,H1 acc=none ->
 ∃W:Nat->Nat->List V->Hp->Prop,(∃m,W 0 m [] (upd H1 acc (.lst [])))/\∀i m ys H,W i m ys H->H acc=some (.lst ys) /\
  ((J.stop i H/\Q (.ref acc) H)\/(J.go i H/\∀x H',J.yld i H x H'->g x (List.replicate nB none) H' fun σ2 H2=>tc σ2 H2 fun b H3=>
   if b=true then te σ2 H3 fun y H4=>H4 acc=some (.lst ys)/\ys.length<sizeLine/\∃m',m'<m/\W (i+1) m' (ys++[y]) (upd H4 acc (.lst (ys++[y])))
   else ∃m',m'<m/\W (i+1) m' ys H3))
section
variable {X:Cx} {NB:List Str} {scope:Scope}
theorem blk_inv {pins:List (Addr × Obj)} {σ:St} {H:Hp} {s:Shared} {h4:Heap} {tk:Nat} {fp:List Addr} (I:Inv X pins σ H s) (hk:scope.kind=.function) (hfree:∀x ∈ scope.names,x.2≠.free) (hcell:∀x ∈ scope.names,x.2≠.cell)
  (hf:∀b ∈ fp,iV X pins H b) (ho:∀b ∈ fp,b<s.heap.objs.size) {m:Str->Option Value} (hn:h4.Ns s.heap.objs.size m) (keep:∀b o,s.heap.get? b=some o->h4.get? b=some o):
  Inv (X.blk NB scope s.heap.objs.size s H fp (X.pn++pins)) [] (List.replicate NB.length none) H { s with heap:=h4,toks:=tk }:=by
 have stk:∀b,b≠X.env.locals->b ∉ X.fs->b ∉ frs X.stack:=fun b h1 h2 z=>(List.mem_cons.mp (I.stkSub b z)).elim h1 h2
 have nok:∀x k,scope.names.lookup x=some k->k≠.cell/\k≠.free:=fun x k q=>⟨hcell (x,k) (PySem.mem_of_lookup q),hfree (x,k) (PySem.mem_of_lookup q)⟩
 refine⟨⟨I.ok.mod,hk,I.ok.glob,I.ok.blt,Nat.le_refl _,fun x y c q=>(nomatch q),fun x q=>?_,fun x c q=>(nomatch q),I.ok.hd,I.ok.frames,.inl rfl,fun b hb=>⟨Nat.ne_of_lt (ho b hb),fun x c q=>(nomatch q)⟩,I.bs,Nat.le_trans I.ok.bsz I.sz,
  fun b o q hb=>?_,fun b hb=>stk b (hf b hb).2.1 (hf b hb).2.2.1,I.stack,I.stkFree⟩,rfl,I.bare,Un.kept keep,⟨m,hn,fun i x v q1 q2=>?_⟩,fun x c q=>(nomatch q),I.hok.fresh (Nat.le_refl _),fun x c q=>(nomatch q),fun p hp=>?_,I.hok.kept keep,?_⟩
 ·rcases q with q|q
  ·exact absurd rfl (nok x _ q).1
  ·exact absurd rfl (nok x _ q).2
 ·rcases (hf b hb).2.2.2.1 with z|z
  ·exact I.ok.noex b o q z
  ·exact absurd (Nat.lt_of_lt_of_le (Heap.lt_size q) (Nat.le_trans I.ok.bsz z)) (Nat.lt_irrefl _)
 ·rw [List.getElem?_replicate] at q2
  split at q2 <;> cases q2
 ·have hp':p ∈ X.pn++pins:=by simpa using hp
  obtain⟨q,n,ne,nf,d⟩:=I.pin p hp'
  exact⟨keep _ _ q,n,Nat.ne_of_lt (Heap.lt_size q),stk _ ne nf,d⟩
 ·rw [List.length_replicate]
theorem AhO {pins:List (Addr × Obj)} {σ σ':St} {H H':Hp} {s s':Shared} {h2:Heap} {fp:List Addr} {pl:List (Addr × Obj)} (I:Inv X pins σ H s) (hf:∀b ∈ fp,iV X pins H b) (ho:∀b ∈ fp,b<s.heap.objs.size)
  (J:Inv (X.blk NB scope s.heap.objs.size s H fp (X.pn++pins)) pl σ' H' s') (hs:Heap.SameBut s.heap.objs.size s'.heap h2):Inv X pins σ H' { s' with heap:=h2 }:=by
 have u:=J.base
 have low:∀b o,s.heap.get? b=some o->b≠s.heap.objs.size:=fun b o q=>Nat.ne_of_lt (Heap.lt_size q)
 refine I.call' (s':={ s' with heap:=h2 }) (ch:=fp) J.os ⟨fun b o q n hb he=>(hs.2 b (low b o q)).trans (u.keep b o q n hb he),fun b o q n hb he=>?_,u.free,fun b o q he=>?_,u.tups,u.frzs,u.tbls⟩ (fun b o q=>?_) J.bare fun b hb=>?_
 ·obtain⟨sl,z⟩:=u.slot b o q n hb he
  exact⟨sl,(hs.2 b (low b o q)).trans z⟩
 ·obtain⟨o',z⟩:=u.there b o q he
  exact⟨o',(hs.2 b (low b o q)).trans z⟩
 ·refine(J.hok b o q).stay (fun c w' hc r=>(hs.2 c ?_).trans r) (fun _ r=>r) fun _ _ r=>r
  have fr:H' s.heap.objs.size=none:=J.free
  rintro rfl
  rcases hc with rfl|hc
  ·rw [fr] at q;cases q
  ·rw [fr] at hc;cases hc
 ·obtain⟨f0,f1,f2,f3,f4,f5⟩:=hf b hb
  exact⟨f3,f1,f4,f5⟩
theorem oZ {elt tg iter:Expr} {ifs:List Expr} {pos:Pos} {wi:TI} {g:TG} {tc:TT} {te:TE} (hk:scope.kind=.function) (hfree:∀x ∈ scope.names,x.2≠.free) (hcell:∀x ∈ scope.names,x.2≠.cell)
  (hnames:∀x ∈ scope.names,x.2=.local->scope.names.lookup x.1=some .local) (_:(0:Nat)=0) (hi:PI X tg iter wi)
  (hg:∀C s H fp pn,PG (X.blk NB scope C s H fp pn) tg g) (ht:∀C s H fp pn,PTs (X.blk NB scope C s H fp pn) ifs tc) (he:∀C s H fp pn,PE (X.blk NB scope C s H fp pn) elt te)
  (hs:∀x,foldedSetIterable iter X.env x=pure x:=by intro _;rfl):PE X (.ListComp elt [⟨tg,iter,ifs,0⟩] scope pos) (tComp NB.length wi g tc te):=by
 intro pins s σ H Q I h
 refine wpAny_ListComp hfree hk hnames (thn (hi s σ H _ I h) fun v s1 h1=>thn h1 fun itv s2 h2=>?_) hs
 obtain⟨it,fp,tn,J,H2,rfl,I2,T,st2,f2,h2⟩:=h2
 have lt2:∀b ∈ fp,b<s2.heap.objs.size:=fun b hb=>by
  obtain⟨o,q,_⟩:=T.obj 0 _ st2 b hb
  exact Heap.lt_size q
 refine wpAny_newObj_type ?_
 have hz:H2 s2.heap.objs.size=none:=I2.hok.fresh (Nat.le_refl _)
 obtain⟨W,⟨m0,w0⟩,turn⟩:=h2 s2.heap.objs.size hz
 have I3:Inv X pins σ (upd H2 s2.heap.objs.size (.lst [])) { s2 with heap:=s2.heap.push { cls:=.type "list",dict:=none,data:=.seq ([]:List Value).toArray } }:=
  I2.laid (t':=s2.toks) (fun b o q=>Heap.get?_push_of_some _ q) (Nat.le_refl _) ⟨Nat.zero_le _,[],0,.nil,Heap.get?_push_size _ rfl⟩
 generalize hs3:({ s2 with heap:=s2.heap.push { cls:=.type "list",dict:=none,data:=.seq ([]:List Value).toArray } }:Shared)=s3 at I3 ⊢
 have ups3:∀b o,s2.heap.get? b=some o->s3.heap.get? b=some o:=fun b o q=>by rw [<- hs3];exact Heap.get?_push_of_some _ q
 have f3:∀b ∈ fp,iV X pins (upd H2 s2.heap.objs.size (.lst [])) b:=fun b hb=>⟨by rw [aG (Nat.ne_of_lt (lt2 b hb))];exact(f2 b hb).1,(f2 b hb).2⟩
 have lt3:∀b ∈ fp,b<s3.heap.objs.size:=fun b hb=>by
  obtain⟨o,q,_⟩:=T.obj 0 _ st2 b hb
  exact Heap.lt_size (ups3 b o q)
 refine wpAny_newFunctionEnv hcell (by intro y hy;simp at hy) (fun h4 hn4 hs4=>?_) hk
 have keep4:∀b o,s3.heap.get? b=some o->h4.get? b=some o:=fun b o q=>(hs4.2 b (Nat.ne_of_lt (Heap.lt_size q))).trans (Heap.get?_push_of_some _ q)
 have I4:=blk_inv (NB:=NB) (tk:=s3.toks+([]:List (Str × Value)).length) I3 hk hfree hcell f3 lt3 hn4 keep4
 have st4:tn 0 h4:=T.keep _ _ _ st2 fun b hb o q=>keep4 b o (ups3 b o q)
 have fpY:∀{H':Hp},(∀b ∈ fp,H' b=none)->∀b ∈ fp,iV (X.blk NB scope s3.heap.objs.size s3 (upd H2 s2.heap.objs.size (.lst [])) fp (X.pn++pins)) [] H' b:=fun hn b hb=>by
  obtain⟨g0,g1,g2,g3,g4,g5⟩:=f3 b hb
  exact⟨hn b hb,Nat.ne_of_lt (lt3 b hb),fun z=>(List.mem_cons.mp (I3.stkSub b z)).elim g1 g2,.inl hb,fun x c q=>(nomatch q),fun p hp=>g5 p (by simpa using hp)⟩
 have loop:∀s5:Shared,s5={ s3 with heap:=h4,toks:=s3.toks+([]:List (Str × Value)).length }->codeAny (model X.prog X.w) X.A (.compLoop (.ListComp elt [⟨tg,iter,ifs,0⟩] scope pos) 0 (.ref it) (.ref s2.heap.objs.size) (compEnv scope s3.heap.objs.size X.env))
   (fun r s'=>∃m,s'.heap.Ns s3.heap.objs.size m/\∀h',Heap.SameBut s3.heap.objs.size s'.heap h'->match r with
    | .ok _=>EP X pins σ Q (.ref s2.heap.objs.size) { s' with heap:=h' }
    | .error x=>wpAny (model X.prog X.w) X.A (passOn "comprehension.variables-let-go" x (compEnv scope s3.heap.objs.size X.env)) (EP X pins σ Q) X.xe { s' with heap:=h' }) s5:=by
  rintro s5 rfl
  refine codeAny_loop rfl (fun n s'=>∃i ys H',Inv (X.blk NB scope s3.heap.objs.size s3 (upd H2 s2.heap.objs.size (.lst [])) fp (X.pn++pins)) [] (List.replicate NB.length none) H' s'/\tn i s'.heap/\(∀b ∈ fp,H' b=none)/\W i n ys H')
   (fun n s6 hI=>?_) m0 ⟨0,[],_,I4,st4,fun b hb=>(f3 b hb).1,w0⟩
  obtain⟨i,ys,H6,I6,st6,fr6,w6⟩:=hI
  show wpAny _ _ ((compTurn (.ListComp elt [⟨tg,iter,ifs,0⟩] scope pos) 0 (.ref it) (.ref s2.heap.objs.size) (compEnv scope s3.heap.objs.size X.env)).onRaise (fun x=>do noteFrame x (compEnv scope s3.heap.objs.size X.env);theTreesLotGoes x)) _ _ s6
  refine wpAny_noted ?_
  rw [compTurn_list]
  refine wpAny_bind (wpAny_standAt (wpAny_bind ?_))
  obtain⟨hacc,alt⟩:=turn i n ys H6 w6
  rcases alt with ⟨stop,q⟩|⟨go,step⟩
  ·refine thn (T.done (X.blk NB scope s3.heap.objs.size s3 (upd H2 s2.heap.objs.size (.lst [])) fp (X.pn++pins)) rfl rfl rfl rfl i [] s6 _ H6 _ I6 (fpY fr6) st6 stop) fun r s7 ⟨hr,I7⟩=>?_
   subst hr
   obtain⟨m,hm,_⟩:=I7.loc
   exact wpAny_pure ⟨m,hm,fun h' hsb=>⟨.ref s2.heap.objs.size,H6,AhO I3 f3 lt3 I7 hsb,rfl,q⟩⟩
  ·refine thn (T.item (X.blk NB scope s3.heap.objs.size s3 (upd H2 s2.heap.objs.size (.lst [])) fp (X.pn++pins)) rfl rfl rfl rfl i [] s6 _ H6 _ I6 (fpY fr6) st6 go) fun r s7 ⟨u,hr,h7⟩=>?_
   subst hr
   refine wpAny_bind (thn h7 fun _ s8 ⟨x,H8,I8,r8,y8,st8,fr8⟩=>?_)
   have I8':=I8.pinned (fpY fr8) (T.obj _ _ st8)
   have gp:∀{σ9:St} {H9:Hp} {s9:Shared},Inv (X.blk NB scope s3.heap.objs.size s3 (upd H2 s2.heap.objs.size (.lst [])) fp (X.pn++pins)) ([]++eV fp s8.heap) σ9 H9 s9->tn (i+1) s9.heap/\∀b ∈ fp,H9 b=none:=fun I9=>
    ⟨T.keep _ _ _ st8 fun b hb o e=>(I9.pin (b,o) (List.mem_append_right _ (List.mem_append_right _ (dZ hb e)))).1,fun b hb=>by
     obtain⟨o,e,d⟩:=T.obj _ _ st8 b hb
     exact(I9.pin (b,o) (List.mem_append_right _ (List.mem_append_right _ (dZ hb e)))).2.1⟩
   have wk:∀{σ9:St} {H9:Hp} {s9:Shared},Inv (X.blk NB scope s3.heap.objs.size s3 (upd H2 s2.heap.objs.size (.lst [])) fp (X.pn++pins)) ([]++eV fp s8.heap) σ9 H9 s9->Inv (X.blk NB scope s3.heap.objs.size s3 (upd H2 s2.heap.objs.size (.lst [])) fp (X.pn++pins)) [] (List.replicate NB.length none) H9 s9:=fun I9=>
    I9.unpinned.weak (by rw [List.length_replicate,I9.len]) fun k v z=>by
     rw [List.getElem?_replicate] at z
     split at z <;> cases z
   refine wpAny_bind (wpAny_mono (hg _ _ _ _ _ s8 _ H8 x u _ I8' r8 (step x H8 y8)) (fun _ s9 hq=>?_) fun _ _ z=>z.elim)
   obtain⟨σ9,H9,I9,q9⟩:=hq
   refine wpAny_bind (wpAny_mono (ht _ _ _ _ _ s9 σ9 H9 _ I9 q9) (fun ok s10 hq=>?_) fun _ _ z=>z.elim)
   obtain⟨H10,I10,q10⟩:=hq
   cases ok with
   | false=>
    rw [if_neg (by simp)] at q10
    obtain⟨m',hm',w10⟩:=q10
    exact wpAny_pure ⟨rfl,m',hm',i+1,ys,H10,wk I10,(gp I10).1,(gp I10).2,w10⟩
   | true=>
    rw [if_pos rfl] at q10
    refine wpAny_bind (wpAny_bind (wpAny_mono (he _ _ _ _ _ s10 σ9 H10 _ I10 q10) (fun y s11 hq=>?_) fun _ _ z=>z.elim))
    obtain⟨yv,H11,I11,ry,ha11,hl11,m',hm',w11⟩:=hq
    have mt:=eL (X:=X.blk NB scope s3.heap.objs.size s3 (upd H2 s2.heap.objs.size (.lst [])) fp (X.pn++pins)) ([]++eV fp s8.heap) s11 σ9 H11 (.ref s2.heap.objs.size) [yv] (.ref s2.heap.objs.size) [y] (fun _ H'=>W (i+1) m' (ys++[yv]) H') I11 rfl (.cons ry .nil) ⟨_,ys,yv,rfl,rfl,ha11,hl11,w11⟩
    refine wpAny_bind (wpAny_mono mt (fun _ s12 hq=>?_) fun _ _ z=>z.elim)
    obtain⟨v12,H12,I12,_,w12⟩:=hq
    exact wpAny_pure (wpAny_pure ⟨rfl,m',hm',i+1,_,H12,wk I12,(gp I12).1,(gp I12).2,w12⟩)
 exact codeAny_compStart_list (loop _ rfl) (T.self _ 0 _ _ _ st4 (loop _ rfl))
end
mutual
inductive RdV (K:PySem.W.Frag) (H:Hp):V->PyData->Prop where
 | non:RdV K H .non .none
 | bl (b:Bool):RdV K H (.bl b) (.bool b)
 | int (i:Int):RdV K H (.int i) (.int i)
 | str (x:Str):RdV K H (.str x) (.str x)
 | lst {a:Addr} {xs:List V} {ds:List PyData}:SqL K H a xs->gL K H xs ds->RdV K H (.ref a) (.list ds)
 | tup {a:Addr} {xs:List V} {ds:List PyData}:SqT K H a xs->gL K H xs ds->RdV K H (.ref a) (.tuple ds)
inductive gL (K:PySem.W.Frag) (H:Hp):List V->List PyData->Prop where
 | nil:gL K H [] []
 | cons {x:V} {d:PyData} {xs:List V} {ds:List PyData}:RdV K H x d->gL K H xs ds->gL K H (x::xs) (d::ds)
end
section
variable {X:Cx} {pins:List (Addr × Obj)} {σ:St} {H:Hp} {s:Shared}
mutual
theorem RdV.reads (I:Inv X pins σ H s):∀{x:V} {d:PyData} {u:Value},RdV X.K H x d->cK x u->∃as,Reads s.heap u d as
 | _,_,_,.non,r=>by cases (show _=Value.none from r);exact⟨_,.none⟩
 | _,_,_,.bl b,r=>by cases (show _=Value.bool b from r);exact⟨_,.bool b⟩
 | _,_,_,.int i,r=>by obtain⟨t,q⟩:=(show ∃t,_=Value.int i t from r);cases q;exact⟨_,.int i t⟩
 | _,_,_,.str x,r=>by obtain⟨t,q⟩:=(show ∃t,_=Value.str x t from r);cases q;exact⟨_,.str x t⟩
 | _,_,_,@RdV.lst _ _ a xs ds hq hs,r=>by
  cases (show _=Value.ref a from r)
  obtain⟨its,rv,p,_⟩:=I.list hq
  obtain⟨as,ra⟩:=gL.reads I hs rv
  obtain⟨o,ho,hc,n,hd⟩:=p.isList
  exact⟨_,.list ho hc hd (by simpa using ra)⟩
 | _,_,_,@RdV.tup _ _ a xs ds hq hs,r=>by
  cases (show _=Value.ref a from r)
  obtain⟨its,rv,p,_⟩:=I.tuple hq
  obtain⟨as,ra⟩:=gL.reads I hs rv
  obtain⟨o,ho,hc,n,hd⟩:=(show s.heap.IsTuple a its.toArray from p)
  exact⟨_,.tuple ho hc hd (by simpa using ra)⟩
theorem gL.reads (I:Inv X pins σ H s):∀{xs:List V} {ds:List PyData} {us:List Value},gL X.K H xs ds->cE xs us->∃as,ReadsAll s.heap us ds as
 | _,_,_,.nil,.nil=>⟨_,.nil⟩
 | _,_,_,.cons h hs,.cons r rs=>by
  obtain⟨as,ra⟩:=RdV.reads I h r
  obtain⟨bs,rb⟩:=gL.reads I hs rs
  exact⟨_,.cons ra rb⟩
end
end
section
variable {X:Cx}
def rNeD (K:PySem.W.Frag):R2:=fun x y H Q=>∃dx dy,RdV K H x dx/\RdV K H y dy/\SeqAt.shaped dx=true/\SeqAt.shaped dy=true/\Q (.bl (!PyData.eqv dx dy)) H
theorem qN (hu:X.A.units+64<cLine):OpR X (compareOp .NotEq) (rNeD X.K):=by
 intro pins s σ H x y v u Q I rx ry h
 obtain⟨dx,dy,hx,hy,sx,sy,q⟩:=h
 obtain⟨as,ra⟩:=hx.reads I rx
 obtain⟨bs,rb⟩:=hy.reads I ry
 exact SeqAt.compareNe_shaped ra rb sx sy hu ⟨.bl _,H,I,rfl,q⟩
end
end L2
namespace PySem.SeqAt
open AutoSeq1 (wpAny_loadPart')
open MeetsSeq MeetsSeq2 MeetsSeq3
section
variable {A:Around} {s:Shared}
end
end PySem.SeqAt
namespace L2
open PySem PySem.Spec PyProof.Rows
section
variable {X:Cx}
end
section
variable {κ:Type} [DecidableEq κ]
def dY (kvs:List (κ × V)) (k:κ):Option V:=(kvs.find? fun kv=>decide (kv.1=k)).map (·.2)
def nA (kvs:List (κ × V)) (k:κ) (v:V):List (κ × V):=
 if (kvs.any fun kv=>decide (kv.1=k))=true then kvs.map (fun kv=>if kv.1=k then(kv.1,v) else kv) else kvs++[(k,v)]
theorem eZ {p:κ × V} {r:List (κ × V)} {k:κ} (e:p.1=k):dY (p::r) k=some p.2:=by simp [dY,List.find?_cons,e]
theorem fJ {p:κ × V} {r:List (κ × V)} {k:κ} (e:¬ p.1=k):dY (p::r) k=dY r k:=by simp [dY,List.find?_cons,e]
theorem pJ (k:κ):∀kvs:List (κ × V),(kvs.any fun kv=>decide (kv.1=k))=(dY kvs k).isSome
 | []=>rfl
 | p::r=>by
  rw [List.any_cons]
  by_cases e:p.1=k
  ·simp only [eZ e,decide_eq_true e,Bool.true_or,Option.isSome_some]
  ·rw [fJ e,decide_eq_false e,Bool.false_or];exact pJ k r
theorem sE (k j:κ) (y:V):∀kvs:List (κ × V),dY kvs k=none->dY (kvs++[(k,y)]) j=if j=k then some y else dY kvs j
 | [],_=>by
  by_cases e:k=j
  ·rw [if_pos e.symm];exact eZ (p:=(k,y)) e
  ·rw [if_neg (fun z=>e z.symm)];exact fJ (p:=(k,y)) e
 | p::r,hn=>by
  rw [List.cons_append]
  have hk:¬ p.1=k:=fun z=>by rw [eZ z] at hn;cases hn
  rw [fJ hk] at hn
  have ih:=sE k j y r hn
  by_cases e:p.1=j
  ·rw [eZ e,eZ e,if_neg (fun z=>hk (e.trans z))]
  ·rw [fJ e,fJ e,ih]
theorem oF (kvs:List (κ × V)) (k:κ) (v:V):(nA kvs k v).length<=kvs.length+1:=by
 unfold nA
 split
 ·rw [List.length_map];omega
 ·rw [List.length_append,List.length_cons,List.length_nil];omega
theorem wB {kvs:List (κ × V)} {k:κ} (v:V) (h:dY kvs k=none):nA kvs k v=kvs++[(k,v)]:=by
 unfold nA
 rw [pJ,h]
 exact if_neg (by decide)
theorem iU.isSome_eq {o:Option V} {u:Option Value} (r:iU o u):o.isSome=u.isSome:=by
 cases o with
 | none=>cases u with
  | none=>rfl
  | some _=>exact(show False from r).elim
 | some _=>cases u with
  | none=>exact(show False from r).elim
  | some _=>rfl
theorem iU.getD {o:Option V} {u:Option Value} {d:V} {d':Value} (r:iU o u) (rd:cK d d'):cK (o.getD d) (u.getD d'):=by
 cases o with
 | none=>cases u with
  | none=>exact rd
  | some _=>exact(show False from r).elim
 | some _=>cases u with
  | none=>exact(show False from r).elim
  | some _=>exact r
theorem KV.val {kvs:List (κ × V)} {vs:List (κ × Value)} (r:KV kvs vs) (k:κ):iU (dY kvs k) (valueAt vs k):=by
 unfold KV at r
 induction r with
 | nil=>exact True.intro
 | @cons p q ps qs h t ih=>
  obtain⟨h1,h2⟩:=h
  by_cases e:p.1=k
  ·have e':q.1=k:=h1.symm.trans e
   have b:valueAt (q::qs) k=some q.2:=by simp [valueAt,List.find?_cons,e']
   rw [eZ e,b];exact h2
  ·have e':¬ q.1=k:=fun z=>e (h1.trans z)
   have b:valueAt (q::qs) k=valueAt qs k:=by simp [valueAt,List.find?_cons,e']
   rw [fJ e,b];exact ih
theorem KV.any {kvs:List (κ × V)} {vs:List (κ × Value)} (r:KV kvs vs) (k:κ):(kvs.any fun kv=>decide (kv.1=k))=vs.any fun kv=>decide (kv.1=k):=by
 unfold KV at r
 induction r with
 | nil=>rfl
 | cons h t ih=>rw [List.any_cons,List.any_cons,ih,h.1]
theorem KV.repl {kvs:List (κ × V)} {vs:List (κ × Value)} (r:KV kvs vs) (k:κ) {y:V} {u:Value} (ry:cK y u):
  KV (kvs.map fun kv=>if kv.1=k then(kv.1,y) else kv) (vs.map fun kv=>if kv.1=k then(kv.1,u) else kv):=by
 unfold KV at r ⊢
 induction r with
 | nil=>exact .nil
 | @cons p q ps qs h t ih=>
  rw [List.map_cons,List.map_cons]
  refine .cons ?_ ih
  obtain⟨h1,h2⟩:=h
  by_cases e:p.1=k
  ·rw [if_pos e,if_pos (h1.symm.trans e)];exact⟨h1,ry⟩
  ·rw [if_neg e,if_neg (fun z=>e (h1.trans z))];exact⟨h1,h2⟩
theorem KV.put {kvs:List (κ × V)} {vs:List (κ × Value)} (r:KV kvs vs) (k:κ) {y:V} {u:Value} (ry:cK y u):KV (nA kvs k y) (stored vs k u):=by
 unfold nA stored
 rw [r.any k]
 by_cases e:(vs.any fun kv=>decide (kv.1=k))=true
 ·rw [if_pos e,if_pos e];exact r.repl k ry
 ·rw [if_neg e,if_neg e];exact Paired.snoc r ⟨rfl,ry⟩
theorem KV.length {kvs:List (κ × V)} {vs:List (κ × Value)} (r:KV kvs vs):kvs.length=vs.length:=Paired.length r
end
theorem sU {P:Program} {w:World} {k:Key} {u:Value} (r:cK (kV k) u):(cY P w).is k u=true:=by
 cases k with
 | inl i=>obtain⟨t,e⟩:=(show ∃t,u=Value.int i t from r);subst e;exact wR P w i t
 | inr x=>obtain⟨t,e⟩:=(show ∃t,u=Value.str x t from r);subst e;exact wQ P w x t
theorem sV {P:Program} {w:World}:∀{ks:List Key} {us:List Value},cE (ks.map kV) us->ItemsAre (cY P w) ks us
 | [],_,r=>by rw [List.map_nil] at r;cases r;exact .nil
 | k::ks,_,r=>by
  rw [List.map_cons] at r
  cases r with
  | cons h t=>exact .cons (sU h) (sV t)
abbrev KT (H:Hp):List (List Key × V)->List (List Key × Addr × Value)->Prop:=Paired fun p q=>p.1=q.1/\H q.2.1=some (.tup (p.1.map kV))/\cK p.2 q.2.2
theorem KT.val {H:Hp} {kvs:List (List Key × V)} {xs:List (List Key × Addr × Value)} (r:KT H kvs xs) (k:List Key):iU (dY kvs k) ((atKey xs k).map (·.2)):=by
 induction r with
 | nil=>exact True.intro
 | @cons p q ps qs h t ih=>
  obtain⟨h1,_,h2⟩:=h
  by_cases e:p.1=k
  ·have e':q.1=k:=h1.symm.trans e
   have b:atKey (q::qs) k=some q.2:=by simp [atKey,List.find?_cons,e']
   rw [eZ e,b];exact h2
  ·have e':¬ q.1=k:=fun z=>e (h1.trans z)
   have b:atKey (q::qs) k=atKey qs k:=by simp [atKey,List.find?_cons,e']
   rw [fJ e,b];exact ih
theorem KT.repl {H:Hp} {kvs:List (List Key × V)} {xs:List (List Key × Addr × Value)} (r:KT H kvs xs) (k:List Key) {y:V} {u:Value} (ry:cK y u):
  KT H (kvs.map fun kv=>if kv.1=k then(kv.1,y) else kv) (xs.map (putAt k u)):=by
 induction r with
 | nil=>exact .nil
 | @cons p q ps qs h t ih=>
  rw [List.map_cons,List.map_cons]
  refine .cons ?_ ih
  obtain⟨h1,h2,h3⟩:=h
  unfold putAt
  by_cases e:p.1=k
  ·rw [if_pos e,if_pos (h1.symm.trans e)];exact⟨h1,h2,ry⟩
  ·rw [if_neg e,if_neg (fun z=>e (h1.trans z))];exact⟨h1,h2,h3⟩
theorem KT.put {H:Hp} {kvs:List (List Key × V)} {xs:List (List Key × Addr × Value)} (r:KT H kvs xs) (k:List Key) {b:Addr} {y:V} {u:Value} (hb:H b=some (.tup (k.map kV))) (ry:cK y u):
  KT H (nA kvs k y) (storedH xs k b u):=by
 have e:(kvs.any fun kv=>decide (kv.1=k))=(atKey xs k).isSome:=by
  rw [pJ,(r.val k).isSome_eq,Option.isSome_map]
 unfold nA storedH
 rw [e]
 by_cases q:(atKey xs k).isSome=true
 ·rw [if_pos q,if_pos q];exact r.repl k ry
 ·rw [if_neg q,if_neg q];exact Paired.snoc r ⟨rfl,hb,ry⟩
theorem KT.keeps {H H':Hp} {kvs:List (List Key × V)} {xs:List (List Key × Addr × Value)} (r:KT H kvs xs) (ht:∀b ys,H b=some (.tup ys)->H' b=some (.tup ys)):KT H' kvs xs:=
 Paired.mapP r fun _ _ z=>⟨z.1,ht _ _ z.2.1,z.2.2⟩
section
variable {P:Program} {w:World} {H:Hp} {h:Heap} {a:Addr}
theorem rd_of {u:HO} (ok:HOk P w H h) (e:Rd H a u):cL P w H h a u:=e.ok ok
theorem rG {kvs:List (Key × V)} (ok:HOk P w H h) (e:Rd H a (.dK kvs)):kvs.length<=sizeLine/\(a == sysModules)=false/\∃vs,KV kvs vs/\h.DictOf (cY P w) a vs:=
 show cL P w H h a (.dK kvs) from rd_of ok e
theorem dk_of {kvs:List (Key × V)} (ok:HOk P w H h) (e:H a=some (.dK kvs)):kvs.length<=sizeLine/\(a == sysModules)=false/\∃vs,KV kvs vs/\h.DictOf (cY P w) a vs:=rG ok (.inl e)
theorem nO {ks:List Key} (ok:HOk P w H h) (e:H a=some (.tup (ks.map kV))):(tupleKind (cY P w)).is h ks a:=by
 obtain⟨_,its,r,o,h1,h2,n,h3⟩:=(show cL P w H h a (.tup (ks.map kV)) from ok a _ e)
 exact⟨o,its.toArray,n,h1,h2,h3,by simpa using sV r⟩
theorem rF {kvs:List (List Key × V)} (ok:HOk P w H h) (e:Rd H a (.dT kvs)):kvs.length<=sizeLine/\(a == sysModules)=false /\
  ∃xs,KT H kvs xs/\h.DictOfH (tupleKind (cY P w)) a xs:=by
 obtain⟨z,y,xs,r,o,es,ep,h1,h2,h3,h4,h5⟩:=(show cL P w H h a (.dT kvs) from rd_of ok e)
 refine⟨z,y,xs,r,o,es,ep,h1,h2,h3,h4,fun x hx=>?_,h5⟩
 have all:∀{l:List (List Key × V)} {m:List (List Key × Addr × Value)},KT H l m->∀x ∈ m,(tupleKind (cY P w)).is h x.1 x.2.1:=by
  intro l m q
  induction q with
  | nil=>intro x hx;exact nomatch hx
  | @cons p q ps qs hq t ih=>
   intro x hx
   rcases List.mem_cons.mp hx with e|hx
   ·subst e
    exact nO ok (by rw [<- hq.1];exact hq.2.1)
   ·exact ih x hx
 exact all r x hx
theorem dt_of {kvs:List (List Key × V)} (ok:HOk P w H h) (e:H a=some (.dT kvs)):kvs.length<=sizeLine/\(a == sysModules)=false /\
  ∃xs,KT H kvs xs/\h.DictOfH (tupleKind (cY P w)) a xs:=rF ok (.inl e)
end
def jX (H:Hp) (a:Addr) (y:V) (r:Option V):Prop:=
 (∃kvs k,Rd H a (.dK kvs)/\y=kV k/\r=dY kvs k)\/∃kvs k b,Rd H a (.dT kvs)/\y=.ref b/\H b=some (.tup (k.map kV))/\r=dY kvs k
def DPut (H:Hp) (a:Addr) (y v:V) (H':Hp):Prop:=
 (∃kvs k,H a=some (.dK kvs)/\y=kV k/\kvs.length<sizeLine/\H'=upd H a (.dK (nA kvs k v))) \/
 ∃kvs k b,H a=some (.dT kvs)/\y=.ref b/\H b=some (.tup (k.map kV))/\kvs.length<sizeLine/\H'=upd H a (.dT (nA kvs k v))
theorem jX.k {H:Hp} {a:Addr} {kvs:List (Key × V)} {k:Key} (e:H a=some (.dK kvs)):jX H a (kV k) (dY kvs k):=.inl ⟨kvs,k,.inl e,rfl,rfl⟩
theorem DPut.k {H:Hp} {a:Addr} {kvs:List (Key × V)} {k:Key} {v:V} (e:H a=some (.dK kvs)) (hl:kvs.length<sizeLine):DPut H a (kV k) v (upd H a (.dK (nA kvs k v))):=.inl ⟨kvs,k,e,rfl,hl,rfl⟩
section
variable {X:Cx} {pins:List (Addr × Obj)} {σ:St} {H:Hp} {s:Shared} {a:Addr} {y v:V} {u r:Value} {o:Option V} {A:Around} {E:Value->Shared->Prop}
theorem Inv.big (I:Inv X pins σ H s):sysModules<s.heap.objs.size:=by
 have h:mainGlobals<s.heap.objs.size:=(I.mod.glob.keeps I.bk).lt
 exact Nat.lt_trans (by decide) h
theorem AdO {Q:Value->Shared->Prop} (hu:A.units+1<cLine) (I:Inv X pins σ H s) (g:jX H a y (some v)) (ry:cK y u) (h:∀w' s',Inv X pins σ H s'->cK v w'->Q w' s'):
  wpAny (model X.prog X.w) A (getItem (.ref a) u) Q E s:=by
 rcases g with ⟨kvs,k,e,ey,l⟩|⟨kvs,k,b,e,ey,eb,l⟩
 ·subst ey
  obtain⟨z,hd,vs,rel,dd⟩:=rG I.hok e
  obtain⟨w',hw,rw'⟩:=iU.some_of (v:=v) (o:=valueAt vs k) (by rw [l];exact rel.val k)
  exact wpAny_getItem_of (sU ry) dd.mapOf hw (h w' _ (I.tok _) rw')
 ·subst ey
  cases (show u=Value.ref b from ry)
  obtain⟨z,hd,xs,rel,dd⟩:=rF I.hok e
  obtain⟨w',hw,rw'⟩:=iU.some_of (v:=v) (o:=(atKey xs k).map (·.2)) (by rw [l];exact rel.val k)
  obtain⟨p,hp,hp2⟩:=Option.map_eq_some_iff.mp hw
  refine wpAny_getItem_heap (tupleKind_room_in1 hu) (nO I.hok eb) dd hp ?_
  rw [hp2]
  exact h w' _ (I.tok _) rw'
theorem d_in {Q:Value->Shared->Prop} (hu:A.units+1<cLine) (I:Inv X pins σ H s) (g:jX H a y o) (ry:cK y u) (h:∀s',Inv X pins σ H s'->Q (.bool o.isSome) s'):
  wpAny (model X.prog X.w) A (compareOp .In u (.ref a)) Q E s:=by
 rcases g with ⟨kvs,k,e,ey,l⟩|⟨kvs,k,b,e,ey,eb,l⟩
 ·subst ey
  obtain⟨z,hd,vs,rel,dd⟩:=rG I.hok e
  refine wpAny_in_of (sU ry) hd dd.mapOf ?_
  rw [<- (rel.val k).isSome_eq,<- l]
  exact h _ (I.tok _)
 ·subst ey
  cases (show u=Value.ref b from ry)
  obtain⟨z,hd,xs,rel,dd⟩:=rF I.hok e
  refine wpAny_in_heap (tupleKind_room_in1 hu) (nO I.hok eb) hd dd ?_
  have q:=(rel.val k).isSome_eq
  rw [Option.isSome_map] at q
  rw [<- q,<- l]
  exact h _ (I.tok _)
theorem d_notIn {Q:Value->Shared->Prop} (hu:A.units+1<cLine) (I:Inv X pins σ H s) (g:jX H a y o) (ry:cK y u) (h:∀s',Inv X pins σ H s'->Q (.bool (!o.isSome)) s'):
  wpAny (model X.prog X.w) A (compareOp .NotIn u (.ref a)) Q E s:=by
 rcases g with ⟨kvs,k,e,ey,l⟩|⟨kvs,k,b,e,ey,eb,l⟩
 ·subst ey
  obtain⟨z,hd,vs,rel,dd⟩:=rG I.hok e
  refine wpAny_notIn_of (sU ry) hd dd.mapOf ?_
  rw [<- (rel.val k).isSome_eq,<- l]
  exact h _ (I.tok _)
 ·subst ey
  cases (show u=Value.ref b from ry)
  obtain⟨z,hd,xs,rel,dd⟩:=rF I.hok e
  refine wpAny_notIn_heap (tupleKind_room_in1 hu) (nO I.hok eb) hd dd ?_
  have q:=(rel.val k).isSome_eq
  rw [Option.isSome_map] at q
  rw [<- q,<- l]
  exact h _ (I.tok _)
theorem AbP {h':Heap} {t':Nat} {ob:HO} (I:Inv X pins σ H s) (mu:Mut (H a)) (hs:Heap.SameBut a s.heap h') (he:∃q,h'.get? a=some q) (new:cL X.prog X.w (upd H a ob) h' a ob):
  Inv X pins σ (upd H a ob) { s with heap:=h',toks:=t' }:=
 I.write (x:=a) (e:=a) mu (.inl rfl) (fun b q hb z=>(hs.2 b hb).trans z) he new
theorem dk_new {P:Program} {w:World} {H':Hp} {h':Heap} {kvs:List (Key × V)} {vs:List (Key × Value)} (z:kvs.length<=sizeLine) (hd:(a == sysModules)=false) (rel:KV kvs vs) (dd:h'.DictOf (cY P w) a vs):
  cL P w H' h' a (.dK kvs):=⟨z,hd,vs,rel,dd⟩
theorem AdN {H':Hp} {Q:Unit->Shared->Prop} (hu:A.units+1<cLine) (I:Inv X pins σ H s) (g:DPut H a y v H') (ry:cK y u) (rv:cK v r) (h:∀s',Inv X pins σ H' s'->Q () s'):
  wpAny (model X.prog X.w) A (setItem (.ref a) u r) Q E s:=by
 rcases g with ⟨kvs,k,e,ey,l,eH⟩|⟨kvs,k,b,e,ey,eb,l,eH⟩
 ·subst ey eH
  obtain⟨z,hd,vs,rel,dd⟩:=dk_of I.hok e
  have hz:vs.length<=sizeLine:=by rw [<- rel.length];exact z
  have hl:(nA kvs k v).length<=sizeLine:=by have:=oF kvs k v;omega
  refine wpAny_setItem_pairs (hsz:=hz) (sU ry) dd fun h' dd' hs=>h _ ?_
  have he:∃q,h'.get? a=some q:=let ⟨q,_,_,hq,_⟩:=dd';⟨q,hq⟩
  exact AbP I (by rw [e];exact True.intro) hs he (dk_new hl hd (rel.put k rv) dd')
 ·subst ey eH
  cases (show u=Value.ref b from ry)
  obtain⟨z,hd,xs,rel,dd⟩:=dt_of I.hok e
  have hz:xs.length<=sizeLine:=by rw [<- Paired.length rel];exact z
  have hl:(nA kvs k v).length<=sizeLine:=by have:=oF kvs k v;omega
  refine wpAny_setItem_heap (hsz:=hz) (tupleKind_room_in1 hu) (nO I.hok eb) dd fun h' dd' hs=>h _ ?_
  obtain⟨q,es,ep,hq,h2,h3,h4,_,h5⟩:=dd'
  refine AbP I (by rw [e];exact True.intro) hs ⟨q,hq⟩ ⟨hl,hd,_,(rel.put k eb rv).keeps fun c ys ec=>?_,q,es,ep,hq,h2,h3,h4,h5⟩
  rw [aG (aX ec e (fun z=>nomatch z))]
  exact ec
end
section
variable {X:Cx} {pins:List (Addr × Obj)} {σ:St} {H:Hp} {s:Shared} {a:Addr} {kvs:List (Key × V)} {k:Key} {u:Value} {A:Around} {E:Value->Shared->Prop}
end
def NoSl (i:Expr):Prop:=∀ov iv,subscripted i false ov iv=operate [ov,iv] (getItem ov iv)
theorem subD_of {prog:Program} {w:World} {A:Around} {E:Value->Shared->Prop} {s:Shared} {env:Env} {value slice:Expr} {pos:Pos} {T id:String} {Q:Value->Shared->Prop}
  (hl:typeLookup (.type T) "__getitem__"=pure (some (.builtin id))) (hs:NoSl slice)
  (h:wpAny (model prog w) A (eval value env) (fun o s₁=>wpAny (model prog w) A (eval slice env) (fun i s₂=>s₂.TypeIs o T/\wpAny (model prog w) A (getItem o i) Q E s₂) E s₁) E s):
  wpAny (model prog w) A (eval (.Subscript value slice pos) env) Q E s:=by
 refine Subscript_ (wpAny_mono h (fun o s₁ h₁=>wpAny_mono h₁ (fun i s₂ h₂=>?_) fun _ _ x=>x) fun _ _ x=>x)
 obtain⟨hT,h₂⟩:=h₂
 unfold subscriptTail
 refine wpAny_bind ?_
 rw [getitemInPython_of_ne hT.not_modules]
 refine wpAny_bind (wpAny_specialOf hT hl ?_)
 have fin:wpAny (model prog w) A (subscripted slice false o i) (fun r s₃=>wpAny (model prog w) A (letTemporaryGo value o r >>= fun _=>pure r) Q E s₃) E s₂:=by
  rw [hs o i]
  exact wpAny_operating (wpAny_mono h₂ (fun r s₃ h₃=>wpAny_bind (wpAny_letTemporaryGo (wpAny_pure h₃))) fun _ _ x=>x)
 first
  | exact wpAny_pure (wpAny_bind fin)
  | exact wpAny_bind (wpAny_pure (wpAny_bind fin))
  | exact wpAny_bind fin
theorem xA {X:Cx} {pins:List (Addr × Obj)} {σ:St} {H:Hp} {s:Shared} {a:Addr} {y:V} {o:Option V} (I:Inv X pins σ H s) (g:jX H a y o):s.TypeIs (.ref a) "dict":=by
 rcases g with ⟨kvs,k,e,_,_⟩|⟨kvs,k,b,e,_,_,_⟩
 ·obtain⟨_,_,vs,_,dd⟩:=rG I.hok e
  exact dd.typeIs
 ·obtain⟨_,_,xs,_,dd⟩:=rF I.hok e
  exact dd.typeIs
def tDGet (td ty:TE):TE:=fun σ H Q=>td σ H fun x H1=>ty σ H1 fun y H2=>∃a v,x=.ref a/\jX H2 a y (some v)/\Q v H2
def tDIn (ty td:TE):TE:=fun σ H Q=>ty σ H fun y H1=>td σ H1 fun x H2=>∃a o,x=.ref a/\jX H2 a y o/\Q (.bl o.isSome) H2
def tDNotIn (ty td:TE):TE:=fun σ H Q=>ty σ H fun y H1=>td σ H1 fun x H2=>∃a o,x=.ref a/\jX H2 a y o/\Q (.bl (!o.isSome)) H2
def sDPut (td ty tv:TE):TS:=fun D σ H=>tv σ H fun v H1=>td σ H1 fun x H2=>ty σ H2 fun y H3=>∃a H4,x=.ref a/\DPut H3 a y v H4/\D.nx σ H4
section
variable {X:Cx} {o i e value:Expr} {pos pos' tpos:Pos} {td ty tv:TE}
theorem AaW (hu:X.A.units+1<cLine) (ho:PE X o td) (hi:PE X i ty) (hs:NoSl i):PE X (.Subscript o i pos) (tDGet td ty):=by
 intro pins s σ H Q I h
 refine subD_of PySem.F.slot_dict_getitem.lookup hs (thn (ho s σ H _ I h) fun u s1 ⟨x,H1,I1,rx,q1⟩=>thn (hi s1 σ H1 _ I1 q1) fun iv s2 ⟨y,H2,I2,ry,a,v,ex,g,q2⟩=>?_)
 subst ex
 obtain rfl:u=Value.ref a:=rx
 exact⟨xA I2 g,AdO hu I2 g ry fun w' s3 I3 rw'=>⟨v,H2,I3,rw',q2⟩⟩
theorem pc_din (hu:X.A.units+1<cLine) (hi:PE X i ty) (ho:PE X o td):PC X .In i o (tDIn ty td):=by
 intro pins s σ H Q I h
 refine thn (hi s σ H _ I h) fun iv s1 ⟨y,H1,I1,ry,q1⟩=>thn (ho s1 σ H1 _ I1 q1) fun u s2 ⟨x,H2,I2,rx,a,ov,ex,g,q2⟩=>?_
 subst ex
 obtain rfl:u=Value.ref a:=rx
 exact d_in hu I2 g ry fun s3 I3=>⟨.bl ov.isSome,H2,I3,rfl,q2⟩
theorem AcJ (hu:X.A.units+1<cLine) (hi:PE X i ty) (ho:PE X o td):PC X .NotIn i o (tDNotIn ty td):=by
 intro pins s σ H Q I h
 refine thn (hi s σ H _ I h) fun iv s1 ⟨y,H1,I1,ry,q1⟩=>thn (ho s1 σ H1 _ I1 q1) fun u s2 ⟨x,H2,I2,rx,a,ov,ex,g,q2⟩=>?_
 subst ex
 obtain rfl:u=Value.ref a:=rx
 exact d_notIn hu I2 g ry fun s3 I3=>⟨.bl (!ov.isSome),H2,I3,rfl,q2⟩
theorem AaT (hu:X.A.units+1<cLine) (ho:PE X o td) (hi:PE X i ty) (hv:PE X value tv) (hs:swapsWith value (some (.Subscript o i pos')) pos.line X.env=pure false):
  PS X (.Assign [.Subscript o i pos'] value pos) (sDPut td ty tv):=by
 intro pins s σ H D I h
 refine wpAny_Assign_Subscript (thn (hv s σ H _ I h) fun r s1 ⟨v,H1,I1,rv,q1⟩=>thn (ho s1 σ H1 _ I1 q1) fun u s2 ⟨x,H2,I2,rx,q2⟩=>thn (hi s2 σ H2 _ I2 q2) fun iv s3 ⟨y,H3,I3,ry,a,H4,ex,g,q3⟩=>?_) hs
 subst ex
 obtain rfl:u=Value.ref a:=rx
 exact AdN hu I3 g ry rv fun s4 I4=>⟨σ,H4,I4,q3⟩
end
theorem AhE {P:Program} {w:World} {H:Hp} (h:Heap) (hb:sysModules<h.objs.size):cL P w H (h.push { cls:=.type "dict",data:=.dict #[] }) h.objs.size (.dK []):=
 ⟨Nat.zero_le _,beq_eq_false_iff_ne.mpr (Ne.symm (Nat.ne_of_lt hb)),[],.nil,Heap.DictOf.new h⟩
def tDNewK:TE:=fun _ H Q=>∀p,H p=none->Q (.ref p) (upd H p (.dK []))
section
variable {X:Cx} {pos:Pos}
theorem jE:PE X (.Dict [] [] pos) tDNewK:=fun pins s σ H Q I h=>
 wpAny_Dict_empty ⟨.ref s.heap.objs.size,_,I.laid (a:=s.heap.objs.size) (o:=.dK []) (t':=s.toks) (fun _ _ q=>Heap.get?_push_of_some _ q) (Nat.le_refl _) (AhE s.heap I.big),rfl,h _ (I.hok.fresh (Nat.le_refl _))⟩
end
structure M1 (X:Cx) (o:Expr) (m:Str) (apos:Pos) (e:Expr) (cpos:Pos):Prop where
 base:attributeBase o m X.env (eval o X.env)=eval o X.env
 few:((backTo cpos (starEach [e] X.env)).all (fun x=>!x.1) && (backToKw cpos (keywordEach [] X.env)).all (fun x=>x.1.isSome)
  && decide (([e]:List Expr).length+([]:List Keyword).length+(if ([]:List Keyword).isEmpty then 0 else 1)<30))=true
 line:(apos.endLine == cpos.line)=true
 trees:backTo cpos (starEach [e] X.env)=[(false,eval e X.env)]
def IsD (H:Hp) (a:Addr):Prop:=(∃kvs,Rd H a (.dK kvs))\/∃kvs,Rd H a (.dT kvs)
theorem isD_at {X:Cx} {pins:List (Addr × Obj)} {σ:St} {H:Hp} {s:Shared} {a:Addr} (I:Inv X pins σ H s) (d:IsD H a):
  s.TypeIs (.ref a) "dict"/\(∀b,Value.ref a=.ref b->∃ob,s.heap.get? b=some ob/\ob.dict=none)/\(a == sysModules)=false:=by
 rcases d with ⟨kvs,e⟩|⟨kvs,e⟩
 ·obtain⟨_,hd,vs,_,dd⟩:=rG I.hok e
  refine⟨dd.typeIs,fun b q=>?_,hd⟩
  cases q
  obtain⟨ob,_,_,h1,h2,_⟩:=dd
  exact⟨ob,h1,h2.2.1⟩
 ·obtain⟨_,hd,xs,_,dd⟩:=rF I.hok e
  refine⟨dd.typeIs,fun b q=>?_,hd⟩
  cases q
  obtain⟨ob,_,_,h1,h2,_⟩:=dd
  exact⟨ob,h1,h2.2.1⟩
section
variable {X:Cx} {pins:List (Addr × Obj)} {σ:St} {H:Hp} {s:Shared} {a:Addr} {y d:V} {u r:Value} {o:Option V} {A:Around} {E:Value->Shared->Prop}
theorem d_get1 {Q:Value->Shared->Prop} (hu:A.units+1<cLine) (I:Inv X pins σ H s) (g:jX H a y o) (ry:cK y u) (h:∀w' s',Inv X pins σ H s'->cK (o.getD .non) w'->Q w' s'):
  wpAny (model X.prog X.w) A (call (.builtin "dict.get") [.ref a,u]) Q E s:=by
 rcases g with ⟨kvs,k,e,ey,l⟩|⟨kvs,k,b,e,ey,eb,l⟩
 ·subst ey
  obtain⟨z,hd,vs,rel,dd⟩:=rG I.hok e
  refine call_meetsIn PySem.F.slot_dict_get dd.typeIs PySem.F.entry_dict_get (PySem.F.args_dict_get_2 _ _) (meets_dict_get (cY X.prog X.w) a (sU ry) hd) ⟨_,dd.mapOf,h _ _ (I.tok _) ?_⟩
  rw [l]
  exact(rel.val k).getD rfl
 ·subst ey
  cases (show u=Value.ref b from ry)
  obtain⟨z,hd,xs,rel,dd⟩:=rF I.hok e
  refine call_meetsIn PySem.F.slot_dict_get dd.typeIs PySem.F.entry_dict_get (PySem.F.args_dict_get_2 _ _) (meetsH_dict_get (tupleKind (cY X.prog X.w)) a b hd) ⟨tupleKind_room_in1 hu,k,xs,nO I.hok eb,dd,h _ _ (I.tok _) ?_⟩
  rw [l]
  exact(rel.val k).getD rfl
end
def tDGet1 (td ty:TE):TE:=fun σ H Q=>td σ H fun x H1=>∃a,x=.ref a/\IsD H1 a/\ty σ H1 fun y H2=>∃o,jX H2 a y o/\Q (o.getD .non) H2
section
variable {X:Cx} {o e f:Expr} {apos cpos:Pos} {td ty tx:TE}
theorem AeY (hu:X.A.units+1<cLine) (ho:PE X o td) (he:PE X e ty) (m:M1 X o "get" apos e cpos):PE X (.Call (.Attribute o "get" apos) [e] [] cpos) (tDGet1 td ty):=by
 intro pins s σ H Q I h
 refine wpAny_Call_method m.base m.few m.line PySem.F.plainAttrs_dict PySem.F.slot_dict_get PySem.F.type_dict_get (thn (ho s σ H _ I h) fun u s1 ⟨x,H1,I1,rx,a,ex,d,q1⟩=>?_)
 subst ex
 obtain rfl:u=Value.ref a:=rx
 obtain⟨t1,t2,_⟩:=isD_at I1 d
 refine⟨t1,t2,?_⟩
 rw [m.trees]
 refine Calls.callWith_builtin rfl (Calls.evalArgs_plain (Calls.spliced_cons (thn (he s1 σ H1 _ I1 q1) fun iv s2 ⟨y,H2,I2,ry,ov,g,q2⟩=>Calls.spliced_nil ?_)))
 exact d_get1 hu I2 g ry fun w' s3 I3 rw'=>⟨_,H2,I3,rw',q2⟩
end
section
variable {X:Cx} {pins:List (Addr × Obj)} {σ:St} {H:Hp} {s:Shared} {a:Addr} {kvs:List (Key × V)} {A:Around} {E:Value->Shared->Prop}
end
section
variable {X:Cx} {pins:List (Addr × Obj)} {σ:St} {H:Hp} {s:Shared} {a:Addr} {y:V} {u:Value} {A:Around} {E:Value->Shared->Prop}
end
section
variable {X:Cx}
def rCatA:R2:=fun x y H Q=>∃a b xs ys,x=.ref a/\y=.ref b/\H a=some (.tup xs)/\H b=some (.tup ys)/\xs.length+ys.length<=sizeLine /\
 ∀p H',aR H H'->H' p=some (.tup (xs++ys))->Q (.ref p) H'
theorem aK {H:Hp} {p:Addr} {o:HO} (h:H p=none):aR H (upd H p o):=fun b u q=>by
 rw [aG (aF q h)]
 exact q
theorem eO:OpR X (binaryOp .Add) rCatA:=by
 intro pins s σ H x y v u Q I rx ry h
 obtain⟨a,b,xs,ys,rfl,rfl,ha,hb,hz,q⟩:=h
 by_cases hx:xs=[]
 ·subst hx
  cases (show v=Value.ref a from rx)
  cases (show u=Value.ref b from ry)
  obtain⟨its,r1,p1,_⟩:=I.tuple (SqT.of ha)
  obtain⟨its2,r2,p2,_⟩:=I.tuple (SqT.of hb)
  cases r1
  obtain⟨⟨cls,dd,data,sl⟩,ho,hc,n,hd⟩:=p1
  obtain⟨⟨cls2,dd2,data2,sl2⟩,ho2,hc2,n2,hd2⟩:=p2
  simp only at hc hd hc2 hd2
  subst hc hd hc2 hd2
  exact concat_meets ⟨_,ho,rfl⟩ ⟨_,ho2,rfl⟩ noFill_tuple_add seq_tuple_add PySem.F.slot_tuple_add PySem.F.entry_tuple_add (PySem.F.args_tuple_add_2 _ _)
   (tuple_addW0 a b _ its2.toArray n n2 dd dd2 sl sl2 rfl) ⟨ho,ho2,⟨.ref b,H,I,rfl,q b H (aR.refl H) (by simpa using hb)⟩⟩
 ·refine op_catT pins s σ H _ _ v u Q I rx ry ⟨a,b,xs,ys,rfl,rfl,SqT.of ha,SqT.of hb,hx,hz,fun z=>?_,fun z p hp=>?_⟩
  ·subst z
   exact q a H (aR.refl H) (by simpa using ha)
  ·exact q p _ (aK hp) aD
theorem AfG:OpR X (binaryOp .FloorDiv) (rI (fun _ j=>0<j/\j<2 ^ 64) fun i j=>.int (i / j)):=opI fun i j _ _ _ _ _ hc q=>by
 have e:i.fdiv j=i / j:=Int.fdiv_eq_ediv_of_nonneg _ (Int.le_of_lt hc.1)
 rw [<- e] at q
 refine floordiv_int (Int.ne_of_gt hc.1) q (.inl (PyProof.noPylong_of_log2 ?_))
 have h1:j.natAbs<2 ^ 64:=by omega
 have h2:j.natAbs≠0:=by omega
 have h3:j.natAbs.log2<64:=(Nat.log2_lt h2).mpr h1
 omega
end
end L2
namespace HT
open PySem PyProof.Rows
section
variable {prog:Program} {w:World} {A:Around} {E:Value->Shared->Prop} {s:Shared}
theorem getItem_tuple_all {t sl:Addr} {items:Array Value} {vl vu:Value} {lo hi:Option Int} {Q:Value->Shared->Prop} (ht:IsTup s.heap t items) (hs:s.heap.IsSliceOf sl vl vu .none) (pl:IsPart vl lo) (pu:IsPart vu hi)
  (hw:sIx items.size 0 lo=0/\sIx items.size items.size hi=items.size) (h:Q (.ref t) s):wpAny (model prog w) A (getItem (.ref t) (.ref sl)) Q E s:=by
 obtain⟨os,hos,hcs,hds⟩:=id hs
 have hTs:s.TypeIs (.ref sl) "slice":=⟨os,hos,hcs⟩
 unfold getItem
 try with_reducible refine wpAny_holding ?_
 first|refine wpAny_bind (wpAny_pure ?_)|skip
 refine wpAny_bind (wpAny_sequenceKey ht.typeIs (by decide) ?_)
 refine wpAny_bind (wpAny_callSpecial?_slot (name:=Str.ofString "__getitem__") ht.typeIs PyProof.Rows.slot_tuple_getitem
  (wpAny_call_entry PyProof.Rows.slot_tuple_getitem ht.typeIs entry_tuple_getitem ?_ (args_tuple_getitem _ _)))
 show wpAny _ _ (Builtin.Tuple.tupleItemsOf (.ref t) >>= _) _ _ s
 refine wpAny_bind (tupleItemsOf_ ht ?_)
 refine wpAny_bind (wpAny_typeOf hTs ?_)
 rw [if_pos (by decide)]
 refine wpAny_bind (hV hs pl pu ?_)
 have hyes:(((sIx items.size 0 lo:Nat):Int) == 0 && (1:Int) == 1 && (sIx items.size items.size hi-sIx items.size 0 lo) == items.size)=true:=by
  rw [hw.1,hw.2]
  simp
 show wpAny _ _ (if (((sIx items.size 0 lo:Nat):Int) == 0 && (1:Int) == 1 && (sIx items.size items.size hi-sIx items.size 0 lo) == items.size)=true then _ else _) _ _ s
 rw [if_pos hyes]
 obtain⟨o,ho,hc,n,hd⟩:=id ht
 refine wpAny_bind ?_
 unfold Builtin.Tuple.tupleIsExact
 refine wpAny_bind (wpAny_typeOf ht.typeIs ?_)
 refine wpAny_pure ?_
 rw [if_pos (by decide)]
 refine wpAny_bind (wpAny_rule ?_)
 exact wpAny_pure ⟨_,rfl,wpAny_pure h⟩
end
end HT
namespace L2
open PySem PySem.Spec PyProof.Rows
section
variable {X:Cx}
def rSlA:V->Option Int->Option Int->Hp->VK->Prop:=fun x lo hi H Q=>∃a xs,x=.ref a/\H a=some (.tup xs)/\∀p H',aR H H'->H' p=some (.tup (nV xs lo hi))->Q (.ref p) H'
theorem gR:SlR X rSlA:=by
 intro pins s σ H x v vl vu lo hi sl Q I rx hs pl pu h
 obtain⟨a,xs,rfl,hx,q⟩:=h
 by_cases hw:HT.sIx xs.length 0 lo=0/\HT.sIx xs.length xs.length hi=xs.length
 ·cases (show v=Value.ref a from rx)
  obtain⟨its,r,ht,hz⟩:=I.tuple (SqT.of hx)
  have hlen:its.toArray.size=xs.length:=by rw [List.size_toArray];exact r.length.symm
  refine⟨"tuple",_,PyProof.Rows.slot_tuple_getitem.lookup,ht.typeIs,?_⟩
  refine HT.getItem_tuple_all ht hs pl pu (by rw [hlen];exact hw) ⟨.ref a,H,I,rfl,q a H (aR.refl H) ?_⟩
  have e:nV xs lo hi=xs:=by
   unfold nV
   rw [hw.1,hw.2]
   simp
  rw [e]
  exact hx
 ·exact sl_tup pins s σ H _ v vl vu lo hi sl Q I rx hs pl pu ⟨a,xs,rfl,SqT.of hx,hw,fun p hp=>q p _ (aK hp) aD⟩
def AbB:Expr->Bool
 | .Starred _ _=>false
 | _=>true
theorem vN {e:Expr} {es:List Expr} {env:Env} (h:AbB e=true):starEach (e::es) env=(false,eval e env)::starEach es env:=by
 cases e <;> first|rfl|cases h
structure PAc (X:Cx) (es:List Expr) (t:TA):Prop where
 h:PA X es t
theorem pcn {X:Cx}:PAc X [] oH:=⟨aB⟩
theorem pcc {X:Cx} {e:Expr} {es:List Expr} {te:TE} {t:TA} (ha:PE X e te) (hr:PAc X es t) (h:AbB e=true:=by rfl):PAc X (e::es) (hG te t):=⟨aA ha hr.h (vN h)⟩
theorem AaV {X:Cx} {es:List Expr} {t:TA} {pos:Pos} (h:PAc X es t):PE X (.List es pos) (tLst t):=cN h.h
end
abbrev Cx.blkF (X:Cx) (NB:List Str) (scope:Scope) (cl:List (Str × Addr)) (C:Addr) (s:Shared) (H:Hp) (fp:List Addr) (pn:List (Addr × Obj)):Cx:=
 { X with N:=NB,s₀:=s,H₀:=H,env:=compEnvC scope cl C X.env,outer:=X.stack,ex:=fp,fn:=fun _=>false,pn:=pn,xe:=fun _ _=>False }
def gK (n:Nat) (js:List Nat) (σ:St):St:=List.replicate n none++js.map fun j=>(σ[j]?).join
def tJ (n:Nat) (js:List Nat) (wi:TI) (g:TG) (tc:TT) (te:TE):TE:=fun σ H Q=>wi σ H fun J H1=>∀acc,H1 acc=none ->
 ∃W:Nat->Nat->List V->Hp->Prop,(∃m,W 0 m [] (upd H1 acc (.lst [])))/\∀i m ys H,W i m ys H->H acc=some (.lst ys) /\
  ((J.stop i H/\Q (.ref acc) H)\/(J.go i H/\∀x H',J.yld i H x H'->g x (gK n js σ) H' fun σ2 H2=>σ2.drop n=(gK n js σ).drop n/\tc σ2 H2 fun b H3=>
   if b=true then te σ2 H3 fun y H4=>H4 acc=some (.lst ys)/\ys.length<sizeLine/\∃m',m'<m/\W (i+1) m' (ys++[y]) (upd H4 acc (.lst (ys++[y])))
   else ∃m',m'<m/\W (i+1) m' ys H3))
structure fY (X:Cx) (NB:List Str) (n:Nat) (js:List Nat) (scope:Scope) (cl:List (Str × Addr)):Prop where
 clo:closureFor scope X.env=pure cl
 sub:∀x c,cl.lookup x=some c->X.env.cells.lookup x=some c
 has:∀x,((relabel scope X.env).names.lookup x=some .cell\/(relabel scope X.env).names.lookup x=some .free)->(cl.lookup x).isSome=true
 len:NB.length=n+js.length
 nam:∀k j,js[k]?=some j->NB[n+k]?=X.N[j]?
 ck:∀x,Vis (relabel scope X.env) x->x ∈ NB.drop n->((relabel scope X.env).names.lookup x=some .cell\/(relabel scope X.env).names.lookup x=some .free)/\(X.env.kindOf x=some .cell\/X.env.kindOf x=some .free)/\(cl.lookup x).isSome=true
section
variable {X:Cx} {NB:List Str} {n:Nat} {js:List Nat} {scope:Scope} {cl:List (Str × Addr)}
theorem nZ (T:fY X NB n js scope cl) (σ:St):(gK n js σ).length=NB.length:=by
 unfold gK
 rw [List.length_append,List.length_replicate,List.length_map,T.len]
theorem rJ {σ:St} {i:Nat} {v:V} (h:(gK n js σ)[i]?=some (some v)):∃k j,i=n+k/\js[k]?=some j/\σ[j]?=some (some v):=by
 unfold gK at h
 rcases Nat.lt_or_ge i n with c|c
 ·rw [List.getElem?_append_left (by rw [List.length_replicate];exact c),List.getElem?_replicate,if_pos c] at h
  cases h
 ·rw [List.getElem?_append_right (by rw [List.length_replicate];exact c),List.length_replicate,List.getElem?_map] at h
  cases hj:js[i-n]? with
  | none=>rw [hj] at h;cases h
  | some j=>
   rw [hj] at h
   have h:some ((σ[j]?).join)=some (some v):=h
   have h:=Option.some.inj h
   refine⟨i-n,j,by omega,hj,?_⟩
   cases hs:σ[j]? with
   | none=>rw [hs] at h;cases h
   | some o=>
    rw [hs] at h
    have h:o=some v:=h
    rw [h]
theorem xJ {pins:List (Addr × Obj)} {σ:St} {H:Hp} {s:Shared} {h4:Heap} {tk:Nat} {fp:List Addr} (I:Inv X pins σ H s) (hk:scope.kind=.function) (T:fY X NB n js scope cl)
  (hf:∀b ∈ fp,iV X pins H b) (ho:∀b ∈ fp,b<s.heap.objs.size) {m:Str->Option Value} (hn:h4.Ns s.heap.objs.size m) (keep:∀b o,s.heap.get? b=some o->h4.get? b=some o):
  Inv (X.blkF NB scope cl s.heap.objs.size s H fp (X.pn++pins)) [] (gK n js σ) H { s with heap:=h4,toks:=tk }:=by
 have stk:∀b,b≠X.env.locals->b ∉ X.fs->b ∉ frs X.stack:=fun b h1 h2 z=>(List.mem_cons.mp (I.stkSub b z)).elim h1 h2
 obtain⟨m0,hn0,hl0⟩:=I.loc
 refine⟨⟨I.ok.mod,hk,I.ok.glob,I.ok.blt,Nat.le_refl _,fun x y c q1 q2=>I.ok.inj x y c (T.sub x c q1) (T.sub y c q2),fun x q=>Option.isSome_iff_exists.mp (T.has x q),fun x c q=>(nomatch q),I.ok.hd,I.ok.frames,.inl rfl,fun b hb=>⟨Nat.ne_of_lt (ho b hb),fun x c q=>(hf b hb).2.2.2.2.1 x c (T.sub x c q)⟩,I.bs,Nat.le_trans I.ok.bsz I.sz,
  fun b o q hb=>?_,fun b hb=>stk b (hf b hb).2.1 (hf b hb).2.2.1,I.stack,I.stkFree⟩,rfl,I.bare,Un.kept keep,⟨m,hn,fun i x v q1 q2 q3=>?_⟩,fun x c q=>?_,I.hok.fresh (Nat.le_refl _),fun x c q=>I.freeC x c (T.sub x c q),fun p hp=>?_,I.hok.kept keep,?_⟩
 ·rcases (hf b hb).2.2.2.1 with z|z
  ·exact I.ok.noex b o q z
  ·exact absurd (Nat.lt_of_lt_of_le (Heap.lt_size q) (Nat.le_trans I.ok.bsz z)) (Nat.lt_irrefl _)
 ·obtain⟨k,j,rfl,hj,hs⟩:=rJ q2
  have q1:NB[n+k]?=some x:=q1
  have hx:X.N[j]?=some x:=by rw [<- T.nam k j hj];exact q1
  have hd:x ∈ NB.drop n:=List.mem_of_getElem? (i:=k) (by rw [List.getElem?_drop];exact q1)
  obtain⟨k1,k2,k3⟩:=T.ck x q3 hd
  obtain⟨c,hc⟩:=Option.isSome_iff_exists.mp k3
  obtain⟨u,ru,lu⟩:=hl0 j x v hx hs (k2.elim (fun z=>.inr (.inl z)) fun z=>.inr (.inr z))
  refine⟨u,ru,.inr ⟨k1,c,hc,?_⟩⟩
  rcases lu with ⟨z,_⟩|⟨_,c',hc',o,ho',hd'⟩
  ·rcases k2 with w|w <;> (rw [w] at z;cases z)
  ·have e:c'=c:=Option.some.inj (hc'.symm.trans (T.sub x c hc))
   subst e
   exact⟨o,keep _ _ ho',hd'⟩
 ·obtain⟨v,o,ho',hd'⟩:=I.cell x c (T.sub x c q)
  exact⟨v,o,keep _ _ ho',hd'⟩
 ·have hp':p ∈ X.pn++pins:=by simpa using hp
  obtain⟨q,n,ne,nf,d⟩:=I.pin p hp'
  exact⟨keep _ _ q,n,Nat.ne_of_lt (Heap.lt_size q),stk _ ne nf,d⟩
 ·exact nZ T σ
theorem sY {pins:List (Addr × Obj)} {σ σ':St} {H H':Hp} {s s':Shared} {h2:Heap} {fp:List Addr} {pl:List (Addr × Obj)} (I:Inv X pins σ H s) (hf:∀b ∈ fp,iV X pins H b) (ho:∀b ∈ fp,b<s.heap.objs.size)
  (J:Inv (X.blkF NB scope cl s.heap.objs.size s H fp (X.pn++pins)) pl σ' H' s') (hs:Heap.SameBut s.heap.objs.size s'.heap h2):Inv X pins σ H' { s' with heap:=h2 }:=by
 have u:=J.base
 have low:∀b o,s.heap.get? b=some o->b≠s.heap.objs.size:=fun b o q=>Nat.ne_of_lt (Heap.lt_size q)
 refine I.call' (s':={ s' with heap:=h2 }) (ch:=fp) J.os ⟨fun b o q n hb he=>(hs.2 b (low b o q)).trans (u.keep b o q n hb he),fun b o q n hb he=>?_,u.free,fun b o q he=>?_,u.tups,u.frzs,u.tbls⟩ (fun b o q=>?_) J.bare fun b hb=>?_
 ·obtain⟨sl,z⟩:=u.slot b o q n hb he
  exact⟨sl,(hs.2 b (low b o q)).trans z⟩
 ·obtain⟨o',z⟩:=u.there b o q he
  exact⟨o',(hs.2 b (low b o q)).trans z⟩
 ·refine(J.hok b o q).stay (fun c w' hc r=>(hs.2 c ?_).trans r) (fun _ r=>r) fun _ _ r=>r
  have fr:H' s.heap.objs.size=none:=J.free
  rintro rfl
  rcases hc with rfl|hc
  ·rw [fr] at q;cases q
  ·rw [fr] at hc;cases hc
 ·obtain⟨f0,f1,f2,f3,f4,f5⟩:=hf b hb
  exact⟨f3,f1,f4,f5⟩
theorem hZ {elt tg iter:Expr} {ifs:List Expr} {pos:Pos} {wi:TI} {g:TG} {tc:TT} {te:TE} (hk:scope.kind=.function) (hcell:∀x ∈ scope.names,x.2≠.cell)
  (hnames:∀x ∈ scope.names,x.2=.local->scope.names.lookup x.1=some .local) (_:(0:Nat)=0) (T:fY X NB n js scope cl) (hi:PI X tg iter wi)
  (hg:∀C s H fp pn,PG (X.blkF NB scope cl C s H fp pn) tg g) (ht:∀C s H fp pn,PTs (X.blkF NB scope cl C s H fp pn) ifs tc) (he:∀C s H fp pn,PE (X.blkF NB scope cl C s H fp pn) elt te)
  (hs:∀x,foldedSetIterable iter X.env x=pure x:=by intro _;rfl):PE X (.ListComp elt [⟨tg,iter,ifs,0⟩] scope pos) (tJ n js wi g tc te):=by
 intro pins s σ H Q I h
 rw [eval_ListComp]
 refine wpAny_comprehension_free (use:=none) rfl hs T.clo hk hnames (thn (hi s σ H _ I h) fun v s1 h1=>thn h1 fun itv s2 h2=>?_)
 obtain⟨it,fp,tn,J,H2,rfl,I2,U,st2,f2,h2⟩:=h2
 have lt2:∀b ∈ fp,b<s2.heap.objs.size:=fun b hb=>by
  obtain⟨o,q,_⟩:=U.obj 0 _ st2 b hb
  exact Heap.lt_size q
 refine wpAny_newObj_type ?_
 have hz:H2 s2.heap.objs.size=none:=I2.hok.fresh (Nat.le_refl _)
 obtain⟨W,⟨m0,w0⟩,turn⟩:=h2 s2.heap.objs.size hz
 have I3:Inv X pins σ (upd H2 s2.heap.objs.size (.lst [])) { s2 with heap:=s2.heap.push { cls:=.type "list",dict:=none,data:=.seq ([]:List Value).toArray } }:=
  I2.laid (t':=s2.toks) (fun b o q=>Heap.get?_push_of_some _ q) (Nat.le_refl _) ⟨Nat.zero_le _,[],0,.nil,Heap.get?_push_size _ rfl⟩
 generalize hs3:({ s2 with heap:=s2.heap.push { cls:=.type "list",dict:=none,data:=.seq ([]:List Value).toArray } }:Shared)=s3 at I3 ⊢
 have ups3:∀b o,s2.heap.get? b=some o->s3.heap.get? b=some o:=fun b o q=>by rw [<- hs3];exact Heap.get?_push_of_some _ q
 have f3:∀b ∈ fp,iV X pins (upd H2 s2.heap.objs.size (.lst [])) b:=fun b hb=>⟨by rw [aG (Nat.ne_of_lt (lt2 b hb))];exact(f2 b hb).1,(f2 b hb).2⟩
 have lt3:∀b ∈ fp,b<s3.heap.objs.size:=fun b hb=>by
  obtain⟨o,q,_⟩:=U.obj 0 _ st2 b hb
  exact Heap.lt_size (ups3 b o q)
 refine wpAny_newFunctionEnv hcell (by intro y hy;simp at hy) (fun h4 hn4 hs4=>?_) hk
 have keep4:∀b o,s3.heap.get? b=some o->h4.get? b=some o:=fun b o q=>(hs4.2 b (Nat.ne_of_lt (Heap.lt_size q))).trans (Heap.get?_push_of_some _ q)
 have I4:=xJ (tk:=s3.toks+([]:List (Str × Value)).length) I3 hk T f3 lt3 hn4 keep4
 have st4:tn 0 h4:=U.keep _ _ _ st2 fun b hb o q=>keep4 b o (ups3 b o q)
 have fpY:∀{H':Hp},(∀b ∈ fp,H' b=none)->∀b ∈ fp,iV (X.blkF NB scope cl s3.heap.objs.size s3 (upd H2 s2.heap.objs.size (.lst [])) fp (X.pn++pins)) [] H' b:=fun hn b hb=>by
  obtain⟨g0,g1,g2,g3,g4,g5⟩:=f3 b hb
  exact⟨hn b hb,Nat.ne_of_lt (lt3 b hb),fun z=>(List.mem_cons.mp (I3.stkSub b z)).elim g1 g2,.inl hb,fun x c q=>g4 x c (T.sub x c q),fun p hp=>g5 p (by simpa using hp)⟩
 have loop:∀s5:Shared,s5={ s3 with heap:=h4,toks:=s3.toks+([]:List (Str × Value)).length }->codeAny (model X.prog X.w) X.A (.compLoop (.ListComp elt [⟨tg,iter,ifs,0⟩] scope pos) 0 (.ref it) (.ref s2.heap.objs.size) (compEnvC scope cl s3.heap.objs.size X.env))
   (compPost (model X.prog X.w) X.A X.xe none (EP X pins σ Q) (.ref s2.heap.objs.size) s3.heap.objs.size) s5:=by
  rintro s5 rfl
  refine codeAny_loop rfl (fun k s'=>∃i ys H',Inv (X.blkF NB scope cl s3.heap.objs.size s3 (upd H2 s2.heap.objs.size (.lst [])) fp (X.pn++pins)) [] (gK n js σ) H' s'/\tn i s'.heap/\(∀b ∈ fp,H' b=none)/\W i k ys H')
   (fun k s6 hI=>?_) m0 ⟨0,[],_,I4,st4,fun b hb=>(f3 b hb).1,w0⟩
  obtain⟨i,ys,H6,I6,st6,fr6,w6⟩:=hI
  show wpAny _ _ ((compTurn (.ListComp elt [⟨tg,iter,ifs,0⟩] scope pos) 0 (.ref it) (.ref s2.heap.objs.size) (compEnvC scope cl s3.heap.objs.size X.env)).onRaise (fun x=>do noteFrame x (compEnvC scope cl s3.heap.objs.size X.env);theTreesLotGoes x)) _ _ s6
  refine wpAny_noted ?_
  rw [compTurn_list]
  refine wpAny_bind (wpAny_standAt (wpAny_bind ?_))
  obtain⟨hacc,alt⟩:=turn i k ys H6 w6
  rcases alt with ⟨stop,q⟩|⟨go,step⟩
  ·refine thn (U.done (X.blkF NB scope cl s3.heap.objs.size s3 (upd H2 s2.heap.objs.size (.lst [])) fp (X.pn++pins)) rfl rfl rfl rfl i [] s6 _ H6 _ I6 (fpY fr6) st6 stop) fun r s7 ⟨hr,I7⟩=>?_
   subst hr
   obtain⟨m,hm,_⟩:=I7.loc
   exact wpAny_pure ⟨m,hm,fun h' hsb=>⟨.ref s2.heap.objs.size,H6,sY I3 f3 lt3 I7 hsb,rfl,q⟩⟩
  ·refine thn (U.item (X.blkF NB scope cl s3.heap.objs.size s3 (upd H2 s2.heap.objs.size (.lst [])) fp (X.pn++pins)) rfl rfl rfl rfl i [] s6 _ H6 _ I6 (fpY fr6) st6 go) fun r s7 ⟨u,hr,h7⟩=>?_
   subst hr
   refine wpAny_bind (thn h7 fun _ s8 ⟨x,H8,I8,r8,y8,st8,fr8⟩=>?_)
   have I8':=I8.pinned (fpY fr8) (U.obj _ _ st8)
   have gp:∀{σ9:St} {H9:Hp} {s9:Shared},Inv (X.blkF NB scope cl s3.heap.objs.size s3 (upd H2 s2.heap.objs.size (.lst [])) fp (X.pn++pins)) ([]++eV fp s8.heap) σ9 H9 s9->tn (i+1) s9.heap/\∀b ∈ fp,H9 b=none:=fun I9=>
    ⟨U.keep _ _ _ st8 fun b hb o e=>(I9.pin (b,o) (List.mem_append_right _ (List.mem_append_right _ (dZ hb e)))).1,fun b hb=>by
     obtain⟨o,e,d⟩:=U.obj _ _ st8 b hb
     exact(I9.pin (b,o) (List.mem_append_right _ (List.mem_append_right _ (dZ hb e)))).2.1⟩
   have wk:∀{σ9:St} {H9:Hp} {s9:Shared},σ9.drop n=(gK n js σ).drop n->Inv (X.blkF NB scope cl s3.heap.objs.size s3 (upd H2 s2.heap.objs.size (.lst [])) fp (X.pn++pins)) ([]++eV fp s8.heap) σ9 H9 s9->Inv (X.blkF NB scope cl s3.heap.objs.size s3 (upd H2 s2.heap.objs.size (.lst [])) fp (X.pn++pins)) [] (gK n js σ) H9 s9:=fun {σ9 H9 s9} hd I9=>
    I9.unpinned.weak (by rw [nZ T,I9.len]) fun k v z=>by
     obtain⟨k',j,rfl,_,_⟩:=rJ z
     have e:=congrArg (fun l=>l[k']?) hd
     simp only [List.getElem?_drop] at e
     rw [e]
     exact z
   refine wpAny_bind (wpAny_mono (hg _ _ _ _ _ s8 _ H8 x u _ I8' r8 (step x H8 y8)) (fun _ s9 hq=>?_) fun _ _ z=>z.elim)
   obtain⟨σ9,H9,I9,hd9,q9⟩:=hq
   refine wpAny_bind (wpAny_mono (ht _ _ _ _ _ s9 σ9 H9 _ I9 q9) (fun ok s10 hq=>?_) fun _ _ z=>z.elim)
   obtain⟨H10,I10,q10⟩:=hq
   cases ok with
   | false=>
    rw [if_neg (by simp)] at q10
    obtain⟨m',hm',w10⟩:=q10
    exact wpAny_pure ⟨rfl,m',hm',i+1,ys,H10,wk hd9 I10,(gp I10).1,(gp I10).2,w10⟩
   | true=>
    rw [if_pos rfl] at q10
    refine wpAny_bind (wpAny_bind (wpAny_mono (he _ _ _ _ _ s10 σ9 H10 _ I10 q10) (fun y s11 hq=>?_) fun _ _ z=>z.elim))
    obtain⟨yv,H11,I11,ry,ha11,hl11,m',hm',w11⟩:=hq
    have mt:=eL (X:=X.blkF NB scope cl s3.heap.objs.size s3 (upd H2 s2.heap.objs.size (.lst [])) fp (X.pn++pins)) ([]++eV fp s8.heap) s11 σ9 H11 (.ref s2.heap.objs.size) [yv] (.ref s2.heap.objs.size) [y] (fun _ H'=>W (i+1) m' (ys++[yv]) H') I11 rfl (.cons ry .nil) ⟨_,ys,yv,rfl,rfl,ha11,hl11,w11⟩
    refine wpAny_bind (wpAny_mono mt (fun _ s12 hq=>?_) fun _ _ z=>z.elim)
    obtain⟨v12,H12,I12,_,w12⟩:=hq
    exact wpAny_pure (wpAny_pure ⟨rfl,m',hm',i+1,_,H12,wk hd9 I12,(gp I12).1,(gp I12).2,w12⟩)
 exact codeAny_compStart_list (loop _ rfl) (U.self _ 0 _ _ _ st4 (loop _ rfl))
def iSeq (K:PySem.W.Frag) (tl:TE):TI:=fun σ H R=>tl σ H fun x H1=>∃a,x=.ref a/\(((∃xs,SqL K H1 a xs)/\R (Itl K a) H1)\/((∃xs,SqT K H1 a xs)/\R (Itt K a) H1))
theorem pi_seq {tg l:Expr} {tl:TE} (hl:PE X l tl) (hc0:X.calm=true:=by rfl):PI X tg l (iSeq X.K tl):=by
 intro pins s σ H R I h
 refine thn (hl s σ H _ I h) fun v s1 ⟨x,H1,I1,r1,q1⟩=>?_
 obtain⟨a,e,q1⟩:=q1
 subst e
 cases r1
 rcases q1 with ⟨⟨xs,hq⟩,q⟩|⟨⟨xs,hq⟩,q⟩
 ·obtain⟨its,rv,p,hz⟩:=I1.list hq
  refine wpAny_pyIter_list p.isList ?_
  refine⟨s1.heap.objs.size,[s1.heap.objs.size],_,_,H1,rfl,I1.kept (t':=s1.toks) fun b o e=>Heap.get?_push_of_some _ e,sF a _ (I.ok.hd hc0),⟨_,Heap.get?_push_size _ rfl,rfl,rfl⟩,fun b hb=>?_,q⟩
  have e:b=s1.heap.objs.size:=by simpa using hb
  subst e
  exact I1.fpOk (Nat.le_refl _) (I1.hok.fresh (Nat.le_refl _))
 ·obtain⟨its,rv,p,hz⟩:=I1.tuple hq
  refine wpAny_pyIter_tuple (show s1.heap.IsTuple a its.toArray from p) ?_
  refine⟨s1.heap.objs.size,[s1.heap.objs.size],_,_,H1,rfl,I1.kept (t':=s1.toks) fun b o e=>Heap.get?_push_of_some _ e,pK a _ (I.ok.hd hc0),⟨_,Heap.get?_push_size _ rfl,rfl,rfl⟩,fun b hb=>?_,q⟩
  have e:b=s1.heap.objs.size:=by simpa using hb
  subst e
  exact I1.fpOk (Nat.le_refl _) (I1.hok.fresh (Nat.le_refl _))
end
end L2
namespace L2
open PySem PySem.Spec PyProof.Rows PySem.W
def wT {α:Type} (lt:Nat->Nat->Bool):KasT α->α
 | .ret a=>a
 | .ask i j k=>wT lt (k (lt i j))
def kOk {α:Type} (n:Nat) (P:α->Prop):KasT α->Prop
 | .ret a=>P a
 | .ask i j k=>i<n/\j<n/\∀b,kOk n P (k b)
theorem iA {α β:Type} {n:Nat} {P:α->Prop} {R:β->Prop} {f:α->KasT β}:∀{t:KasT α},kOk n P t->(∀a,P a->kOk n R (f a))->kOk n R (t.bind f)
 | .ret a,h,hf=>hf a h
 | .ask i j k,⟨h1,h2,h3⟩,hf=>⟨h1,h2,fun b=>iA (h3 b) hf⟩
theorem AbG {α:Type} {n:Nat} {P:α->Prop} {lt:Nat->Nat->Bool}:∀{t:KasT α},kOk n P t->P (wT lt t)
 | .ret a,h=>h
 | .ask i j k,⟨h1,h2,h3⟩=>AbG (t:=k (lt i j)) (h3 (lt i j))
theorem nP {α:Type} {n:Nat} {P:α->Prop} {cmp:Nat->Nat->(Bool->Shared->Prop)->Shared->Prop} {lt:Nat->Nat->Bool} {s:Shared} (hc:∀i j C,i<n->j<n->C (lt i j) s->cmp i j C s):
  ∀{t:KasT α} {C:α->Shared->Prop},kOk n P t->C (wT lt t) s->KasT.kasWp cmp t C s
 | .ret a,C,h,q=>q
 | .ask i j k,C,⟨h1,h2,h3⟩,q=>hc i j _ h1 h2 (nP hc (h3 _) q)
def Low (n:Nat) (p:Array Nat):Prop:=∀x ∈ p,x<n
theorem Low.get {n:Nat} {p:Array Nat} (h:Low n p) (h0:0<n) (i:Nat):p.getD i 0<n:=by
 unfold Array.getD
 split
 ·exact h _ (Array.getElem_mem _)
 ·exact h0
theorem Low.swap {n:Nat} {p:Array Nat} (h:Low n p) (i j:Nat):Low n (p.swapIfInBounds i j):=by
 unfold Array.swapIfInBounds
 split
 ·split
  ·exact fun x hx=>h x ((Array.swap_perm _ _).mem_iff.mp hx)
  ·exact h
 ·exact h
theorem Low.fold {n:Nat} (f g:Nat->Nat):∀(l:List Nat) {p:Array Nat},Low n p->Low n (l.foldl (fun a k=>a.swapIfInBounds (f k) (g k)) p)
 | [],_,h=>h
 | k::l,_,h=>Low.fold f g l (h.swap _ _)
theorem Low.rev {n:Nat} {p:Array Nat} (h:Low n p) (i j:Nat):Low n (kas_rev p i j):=Low.fold (fun k=>i+k) (fun k=>j-1-k) _ h
theorem Low.bub {n:Nat} {p:Array Nat} (h:Low n p) (i j:Nat):Low n (bubble p i j):=Low.fold (fun k=>i-k) (fun k=>i-k-1) _ h
theorem zI {n:Nat} (h0:0<n) {p:Array Nat} (h:Low n p):∀(f x:Nat),kOk n (fun _=>True) (kas_asc p f x)
 | 0,x=>trivial
 | f+1,x=>by
  rw [kas_asc.eq_2]
  refine⟨h.get h0 _,h.get h0 _,fun b=>?_⟩
  cases b
  ·exact zI h0 h f (x+1)
  ·exact trivial
theorem pB {n:Nat} (h0:0<n):∀(f:Nat) {p:Array Nat} (a b:Nat),Low n p->kOk n (fun r=>Low n r.1) (kas_desc f p a b)
 | 0,p,a,b,h=>by
  rw [kas_desc.eq_1]
  exact h
 | f+1,p,a,b,h=>by
  rw [kas_desc.eq_2]
  refine⟨h.get h0 _,h.get h0 _,fun c=>?_⟩
  cases c
  ·refine⟨h.get h0 _,h.get h0 _,fun d=>?_⟩
   cases d
   ·exact pB h0 f _ _ h
   ·exact h
  ·show kOk n _ (if b > 0 then kas_desc f (kas_rev p (a-(b+1)) a) (a+1) 0 else kas_desc f p (a+1) 0)
   split
   ·exact pB h0 f _ _ (h.rev _ _)
   ·exact pB h0 f _ _ h
theorem wL {n:Nat} (h0:0<n) {p:Array Nat} (h:Low n p) (a b:Nat):kOk n (fun r=>Low n r.2) (kas_tail3 a b p):=by
 unfold kas_tail3
 exact iA (zI h0 (h.rev _ _) _ _) fun m _=>h.rev _ _
theorem oE {n:Nat} (h0:0<n) {p:Array Nat} (h:Low n p) (a b:Nat):kOk n (fun r=>Low n r.2) (kas_descPart a b p):=by
 unfold kas_descPart
 refine iA (pB h0 _ _ _ h) fun r hr=>?_
 split
 ·exact wL h0 (hr.rev _ _) _ _
 ·exact wL h0 hr _ _
theorem AfV {n:Nat} (h0:0<n) {p:Array Nat} (h:Low n p) (a:Nat):kOk n (fun r=>Low n r.2) (kas_count a p):=by
 unfold kas_count
 refine iA (zI h0 h _ _) fun m _=>?_
 split
 ·exact h
 ·split
  ·refine⟨h.get h0 _,h.get h0 _,fun c=>?_⟩
   cases c
   ·exact oE h0 (h.rev _ _) _ _
   ·exact h
  ·exact oE h0 h _ _
theorem qQ {n:Nat} (h0:0<n) {p:Array Nat} (h:Low n p) (k:Nat):∀(f l r:Nat),kOk n (fun _=>True) (kas_place p k f l r)
 | 0,l,r=>by
  rw [kas_place.eq_def]
  exact trivial
 | f+1,l,r=>by
  rw [kas_place.eq_def]
  show kOk n _ (if l ≥ r then _ else _)
  split
  ·exact trivial
  ·refine⟨h.get h0 _,h.get h0 _,fun c=>?_⟩
   cases c
   ·exact qQ h0 h k f _ _
   ·exact qQ h0 h k f _ _
theorem AfX {n:Nat} (h0:0<n):∀(f:Nat) {p:Array Nat} (k:Nat),Low n p->kOk n (Low n) (kas_bin f p k)
 | 0,p,k,h=>by
  rw [kas_bin.eq_1]
  exact h
 | f+1,p,k,h=>by
  rw [kas_bin.eq_2]
  exact iA (qQ h0 h _ _ _ _) fun l _=>AfX h0 f _ (h.bub _ _)
theorem uW {n:Nat} (h0:0<n):kOk n (Low n) (kas_sort n):=by
 unfold kas_sort
 have h:Low n (List.range n).toArray:=fun x hx=>List.mem_range.mp (by simpa using hx)
 refine iA (AfV h0 h _) fun r hr=>?_
 split
 ·exact AfX h0 _ _ hr
 ·exact hr
open Classical in
theorem wp_meet {α:Type} {M:Model} {m:Sem α} {s:Shared} {Q1 Q2:α->Prop} (h1:∀A,wpAny M A m (fun a _=>Q1 a) (fun _ _=>False) s) (h2:∀A,wpAny M A m (fun a _=>Q2 a) (fun _ _=>False) s):∃a,Q1 a/\Q2 a:=by
 refine Classical.byContradiction fun no=>?_
 let t:Sem PySem.Fin:=m >>= fun a=>pure (PySem.Fin.done (Flow.ret (Value.bool (decide (Q1 a)))))
 let c:Code:=.builtin "boot" {}
 have go:∀(b:Bool) (Q:α->Prop),(∀A,wpAny M A m (fun a _=>Q a) (fun _ _=>False) s)->(∀a,Q a->decide (Q1 a)=b)->∃r s',Reach M [] s t c default [] s' (End.ret r)/\r=Except.ok (Flow.ret (Value.bool b)):=fun b Q h e=>by
  refine(wp_iff_reach (M:=M) (base:=[]) (c:=c) t (fun r _=>r=Except.ok (Flow.ret (Value.bool b))) default s).mp ?_
  have hA:wpAny M { handled:=(Ctx.of c []).handled,depth:=frameCount (Ctx.of c []).below+(Ctx.of c []).code.weight,frames:=none,guards:=none,units:=(Ctx.of c []).units } t (fun fin _=>fin=PySem.Fin.done (Flow.ret (Value.bool b))) (fun _ _=>False) s:=by
   refine wpAny_bind (thn (h _) fun a s' ha=>wpAny_pure ?_)
   rw [e a ha]
  have:=hA (Ctx.of c []) default ⟨rfl,Nat.le_refl _,fun l z=>(nomatch z),fun l z=>(nomatch z),Nat.le_refl _⟩
  refine Sem.wp_mono M (Ctx.of c []) t ?_ ?_ default s this
  ·intro fin p s' e
   subst e
   rfl
  ·intro _ _ _ z
   exact z.elim
 obtain⟨r1,s1,e1,f1⟩:=go true Q1 h1 fun a h=>decide_eq_true h
 obtain⟨r2,s2,e2,f2⟩:=go false Q2 h2 fun a h=>decide_eq_false fun z=>no ⟨a,z,h⟩
 obtain⟨_,e⟩:=e1.det e2
 have e:r1=r2:=by
  injection e
 rw [f1,f2] at e
 cases e
theorem rL {α β:Type} (f:α->β) (p:Array α):(p.map f).toList=p.toList.map f:=by simp
theorem AcB {prog:Program} {w:World} {s:Shared} (ks:List Int) (h2:2<=ks.length) (h64:ks.length<64):
  (wT (fun i j=>decide (ks.getD i 0<ks.getD j 0)) (kas_sort ks.length)).toList.Perm (List.range ks.length) /\
   ∀i j,i<=j->j<ks.length->ks.getD ((wT (fun i j=>decide (ks.getD i 0<ks.getD j 0)) (kas_sort ks.length)).getD i 0) 0<=ks.getD ((wT (fun i j=>decide (ks.getD i 0<ks.getD j 0)) (kas_sort ks.length)).getD j 0) 0:=by
 have h0:0<ks.length:=by omega
 have low:Low ks.length (wT (fun i j=>decide (ks.getD i 0<ks.getD j 0)) (kas_sort ks.length)):=AbG (uW h0)
 generalize hp:wT (fun i j=>decide (ks.getD i 0<ks.getD j 0)) (kas_sort ks.length)=p at low ⊢
 let itL:List Keyed:=(List.range ks.length).map fun i=>(Value.int (ks.getD i 0) 0,Value.int (i:Nat) 0)
 let it:Array Keyed:=itL.toArray
 have isz:it.size=ks.length:=by simp [it,itL]
 have item:∀i,i<ks.length->kas_item it i=(Value.int (ks.getD i 0) 0,Value.int (i:Nat) 0):=fun i hi=>by
  show it.getD i (Value.none,Value.none)=_
  simp [it,itL,Array.getD,hi]
 have st0:Array.map (kas_item it) (List.range ks.length).toArray=it:=by
  apply Array.ext
  ·simp [isz]
  ·intro i h1 h2
   have hi:i<ks.length:=by simpa using h1
   simp only [Array.getElem_map,List.getElem_toArray,List.getElem_range]
   rw [item i hi]
   simp [it,itL]
 obtain⟨r,⟨q1,q2⟩,q3,q4⟩:=wp_meet (M:=model prog w) (m:=sortRuns'.run (kas_st oneType' it (List.range ks.length).toArray)) (s:=s)
  (Q1:=fun r=>(arrOf r.2).Perm it/\SortedTo (arrOf r.2) it.size) (Q2:=fun r=>arrOf r.2=Array.map (kas_item it) p/\p.size=ks.length)
  (fun A=>by
   have:=wpS_sortRuns (prog:=prog) (w:=w) (A:=A) (E:=fun _ _=>False) (s:=s) (a₀:=it) (st:=kas_st oneType' it (List.range ks.length).toArray) (Q:=fun _ st'=>(arrOf st').Perm it/\SortedTo (arrOf st') it.size)
    (fun x hx=>by
     have hx:x ∈ itL:=by simpa [it] using hx
     obtain⟨i,_,rfl⟩:=List.mem_map.mp hx
     exact⟨_,_,rfl⟩) ⟨by show (Array.map (kas_item it) (List.range ks.length).toArray).Perm it;rw [st0],rfl,rfl,rfl⟩ (by rw [isz];exact h2) (by rw [isz];exact h64) fun st' a1 a2 a3=>⟨a1,a3⟩
   exact thn this fun r s' h=>h.2)
  (fun A=>by
   show kasC (model prog w) A (fun _ _=>False) sortRuns' (fun _ st' _=>arrOf st'=Array.map (kas_item it) p/\p.size=ks.length) (kas_st oneType' it (List.range ks.length).toArray) s
   refine kas_runs (G:=fun p' _=>p'=p) h2 h64 (fun p' st' s' e1 e2 e3 e4=>by subst e4;exact⟨e2,e1⟩) ?_
   refine nP (lt:=fun i j=>decide (ks.getD i 0<ks.getD j 0)) (fun i j C hi hj q=>?_) (uW h0) hp
   unfold kas_cmp
   rw [item i hi,item j hj]
   exact kat_lt_int q)
 rw [q3] at q1 q2
 have plow:∀x ∈ p.toList,x<ks.length:=fun x hx=>low x (by simpa using hx)
 constructor
 ·have q1':(p.toList.map (kas_item it)).Perm itL:=by
   have:=Array.perm_iff_toList_perm.mp q1
   rwa [rL] at this
  have g:=q1'.map fun x:Keyed=>match x.2 with | .int i _=>i.toNat|_=>0
  rw [List.map_map] at g
  have e1:p.toList.map ((fun x:Keyed=>match x.2 with | .int i _=>i.toNat|_=>0) ∘ kas_item it)=p.toList:=by
   refine(List.map_congr_left fun x hx=>?_).trans (List.map_id _)
   show (match (kas_item it x).2 with | .int i _=>i.toNat|_=>0)=x
   rw [item x (plow x hx)]
   rfl
  have e2:itL.map (fun x:Keyed=>match x.2 with | .int i _=>i.toNat|_=>0)=List.range ks.length:=by
   show (List.map _ (List.map _ _))=_
   rw [List.map_map]
   refine(List.map_congr_left fun x hx=>?_).trans (List.map_id _)
   rfl
  rw [e1,e2] at g
  exact g
 ·intro i j hij hj
  have k:=q2 i j hij (by rw [isz];exact hj)
  have at_:∀i,i<ks.length->PyProof.Rows.K (Array.map (kas_item it) p) i=ks.getD (p.getD i 0) 0:=fun i hi=>by
   have hs:i<p.size:=by rw [q4];exact hi
   unfold PyProof.Rows.K
   have e:(Array.map (kas_item it) p)[i]?=some (kas_item it p[i]):=by
    rw [Array.getElem?_map,Array.getElem?_eq_getElem hs]
    rfl
   rw [e,item _ (low _ (Array.getElem_mem hs))]
   have:p.getD i 0=p[i]:=by simp [Array.getD,hs]
   rw [this]
   rfl
  rw [at_ i (by omega),at_ j hj] at k
  exact k
section
variable {prog:Program} {w:World} {A:Around} {E:Value->Shared->Prop} {s:Shared}
theorem sortT {a:Addr} {vs:List Value} {n:Nat} {P:PySem.Fin->Shared->Prop} {G:Array Nat->Prop} (ho:s.heap.get? a=some (seqObj "list" vs.toArray n)) (h64:vs.length<64)
  (hs:2<=vs.length->∀s1:Shared,(∀b o,b≠a->s.heap.get? b=some o->s1.heap.get? b=some o)->wpAny (model prog w) A (keyKind' vs.toArray) (fun κ s2=>s2=s1/\KasT.kasWp (kas_cmp prog w A κ (pairsOf vs)) (kas_sort vs.length) (fun p s3=>s3=s1/\G p) s1) E s1)
  (hP:∀out:Array Value,(vs.length<2/\out=vs.toArray)\/(∃p:Array Nat,G p/\p.size=vs.length/\out=p.map fun i=>vs.getD i .none)->P (PySem.Fin.done (Flow.ret .none)) { s with heap:=sortedHeap s.heap a vs out }):
  wpAny (model prog w) A (Builtin.«list.sort» { pos:=[Value.ref a] }) P E s:=by
 have sl:sizeLine=16777216:=sizeLine_eq
 have ha:=Heap.lt_size ho
 rw [list_sort_plain]
 refine wpAny_bind (listItems_at ho rfl (wpAny_bind (listUpdate_at ho rfl ?_ (by rw [List.size_toArray];omega) (by show 0<=_;omega))))
 obtain⟨e1,ho1⟩:∃e1,(s.heap.update a (Obj.mapSeq fun _=>#[])).get? a=some (seqObj "list" #[] e1):=⟨_,get?_update_seq ho fun _=>#[]⟩
 refine wpAny_bind (seqEpoch_at ho1 rfl (wpAny_bind (wpAny_newTuple (wpAny_bind (wpAny_newList (wpAny_holding ?_) (by show 0<=_;omega))) (by show vs.toArray.toList.length<=_;simp;omega))))
 have ho6:(((s.heap.update a (Obj.mapSeq fun _=>#[])).push (seqObj "tuple" vs.toArray 0)).push (seqObj "list" #[] 0)).get? a=some (seqObj "list" #[] e1):=by
  rw [Heap.get?_push_ne _ _ _ (by rw [size_push',Heap.size_update];exact Nat.ne_of_lt (Nat.lt_succ_of_lt ha)),Heap.get?_push_ne _ _ _ (by rw [Heap.size_update];exact Nat.ne_of_lt ha)]
  exact ho1
 have old:∀b o,b≠a->s.heap.get? b=some o->(((s.heap.update a (Obj.mapSeq fun _=>#[])).push (seqObj "tuple" vs.toArray 0)).push (seqObj "list" #[] 0)).get? b=some o:=fun b o hb e=>by
  have hl:=Heap.lt_size e
  rw [Heap.get?_push_ne _ _ _ (by rw [size_push',Heap.size_update];exact Nat.ne_of_lt (Nat.lt_succ_of_lt hl)),Heap.get?_push_ne _ _ _ (by rw [Heap.size_update];exact Nat.ne_of_lt hl),Heap.get?_update_ne _ _ _ _ hb]
  exact e
 have sz:vs.toArray.size=vs.length:=by simp
 show wpAny _ _ (if vs.toArray.size<2 then _ else _) _ _ _
 by_cases h2:vs.toArray.size<2
 ·rw [if_pos h2]
  refine wpAny_bind (wpAny_pure ?_)
  show wpAny _ _ ((if vs.toArray.size<2 then pure () else sortRuns').run (SortSt.mk' general' (vs.toArray.zip vs.toArray) #[] 7 none) >>= _) _ _ _
  rw [if_pos h2]
  refine wpAny_bind (wpAny_pure ?_)
  have e:Array.map (fun x=>x.2) (arrOf (SortSt.mk' general' (vs.toArray.zip vs.toArray) #[] 7 none))=vs.toArray:=by
   show Array.map (fun x=>x.2) (vs.toArray.zip vs.toArray)=_
   apply Array.ext
   ·simp
   ·intro i a b
    simp
  refine wpAny_bind (seqEpoch_at ho6 rfl (wpAny_bind (listUpdate_at ho6 rfl ?_ (by show 0<=_;omega) (by show (Array.map _ _).size<=_;rw [e];omega))))
  show wpAny _ _ (if (e1 != e1)=true then _ else _) _ _ _
  rw [if_neg (by simp)]
  refine wpAny_pure ?_
  rw [e]
  exact hP _ (.inl ⟨by omega,rfl⟩)
 ·rw [if_neg h2]
  refine wpAny_bind (thn (hs (by omega) _ old) fun κ s2 ⟨es,hk⟩=>?_)
  subst es
  show wpAny _ _ ((if vs.toArray.size<2 then pure () else sortRuns').run (SortSt.mk' κ (vs.toArray.zip vs.toArray) #[] 7 none) >>= _) _ _ _
  rw [if_neg h2]
  have st0:Array.map (kas_item (pairsOf vs)) (List.range vs.length).toArray=vs.toArray.zip vs.toArray:=by
   apply Array.ext
   ·simp
   ·intro i a b
    have hi:i<vs.length:=by simpa using a
    simp only [Array.getElem_map,List.getElem_toArray,List.getElem_range]
    show (pairsOf vs).getD i (.none,.none)=_
    have:i<(pairsOf vs).size:=by rw [pairsOf_size];exact hi
    simp [Array.getD,this,pairsOf,hi]
  rw [<- st0]
  refine wpAny_bind ?_
  have go:kasC (model prog w) A E sortRuns' (fun _ st' s'=>s'=_/\failedOf st'=none/\∃p:Array Nat,G p/\p.size=vs.length/\arrOf st'=Array.map (kas_item (pairsOf vs)) p) (kas_st κ (pairsOf vs) (List.range vs.length).toArray) _:=
   kas_runs (by omega) h64 (fun p' st' s' z1 z2 z3 z4=>⟨z4.1,z3,p',z4.2,z1,z2⟩) hk
  refine thn go fun r s' ⟨es,hf,p,hg,hps,ha'⟩=>?_
  obtain⟨u,st'⟩:=r
  subst es
  have e:Array.map (fun x=>x.2) (arrOf st')=p.map fun i=>vs.getD i .none:=by
   have ha':arrOf st'=Array.map (kas_item (pairsOf vs)) p:=ha'
   rw [ha',Array.map_map]
   congr 1
   funext i
   show (kas_item (vs.toArray.zip vs.toArray) i).2=_
   rw [kat_item rfl]
  refine wpAny_bind (seqEpoch_at ho6 rfl (wpAny_bind (listUpdate_at ho6 rfl ?_ (by show 0<=_;omega) (by show (Array.map _ _).size<=_;rw [e,Array.size_map];omega))))
  have hf:failedOf st'=none:=hf
  rw [hf]
  show wpAny _ _ (if (e1 != e1)=true then _ else _) _ _ _
  rw [if_neg (by simp)]
  refine wpAny_pure ?_
  rw [e]
  exact hP _ (.inr ⟨p,hg,hps,rfl⟩)
end
theorem gU {α β γ:Type} {F:β->γ->Prop} (f:α->β) (g:α->γ):∀{l:List α},(∀i ∈ l,F (f i) (g i))->Paired F (l.map f) (l.map g)
 | [],_=>.nil
 | a::l,h=>.cons (h a (List.mem_cons_self ..)) (gU f g fun i hi=>h i (List.mem_cons_of_mem _ hi))
section
variable {X:Cx}
end
section
variable {prog:Program} {w:World} {A:Around} {E:Value->Shared->Prop}
end
section
variable {X:Cx} {pos:Pos}
end
section
variable {X:Cx}
theorem Inv.byNews {pins:List (Addr × Obj)} {σ:St} {H:Hp} {s:Shared} {h':Heap} {tk:Nat} {m:Str->Option Value} (I:Inv X pins σ H s) (hn:s.heap.Ns X.env.locals m) (F:Fr X.base X.env.locals h' m) (N:News X.base X.env.locals h' (pH X.base s.heap X.env.locals)):
  Inv X pins σ H { s with heap:=h',toks:=tk }:=by
 have keep:∀b o,b≠X.env.locals->s.heap.get? b=some o->h'.get? b=some o:=fun b o hb e=>by
  cases z:X.base.get? b with
  | some o'=>
   have:=I.bk b o' z
   rw [e] at this
   cases this
   exact F.keep b o z
  | none=>exact(N (b,o) (jG hb z e)).1
 refine I.step (g':=s.gens) (d':=s.drawn) (ch:=[]) (fun _ z=>nomatch z) (fun b o hb _ _ e _=>keep b o hb e) (fun b o hb _ _ e _=>⟨o.slots,keep b o hb e⟩) (fun b o _ e n=>n) (fun b o _ e=>?_) (fun _ _ e=>e) (fun _ _ _ e=>e) (fun b ps e=>⟨#[],by simpa using e⟩) (fun m' hm=>?_) (fun b o q=>?_) I.bare
 ·by_cases hb:b=X.env.locals
  ·subst hb
   obtain⟨o',_,_,z,_⟩:=F.ns
   exact⟨o',z⟩
  ·exact⟨o,keep b o hb e⟩
 ·have:m'=m:=funext fun x=>hm.agree hn x
  subst this
  exact F.ns
 ·refine(I.hok b o q).stay (fun c w' hc r=>keep c w' ?_ r) (fun _ r=>r) fun _ _ r=>r
  rintro rfl
  rcases hc with hc|hc
  ·rw [<- hc,I.free] at q;cases q
  ·rw [I.free] at hc;cases hc
theorem nY:∀{bs:List Bool} {us:List Value},cE (bs.map V.bl) us->LSm.BoolsAre us bs
 | [],_,.nil=>.nil
 | b::bs,_,.cons e r=>by
  cases (show _=Value.bool b from e)
  exact .cons b (nY r)
theorem AhJ (hc:X.calm=true):iS X (.builtin "any") (fun xs H Q=>∃(a:Addr) (bs:List Bool),xs=[.ref a]/\SqL X.K H a (bs.map V.bl)/\Q (.bl (bs.any id)) H):=by
 intro pins s σ H xs us Q I r h
 obtain⟨a,bs,rfl,hq,q⟩:=h
 obtain⟨u,rfl,rx⟩:=lC r
 cases rx
 obtain⟨its,r',pl,hz⟩:=I.list hq
 obtain⟨m,F⟩:=I.fr
 exact LSm.any_bools F qT (I.ok.hd hc) pl.isList (nY r') fun h' tk F' N'=>⟨.bl _,H,I.byNews F.ns F' N',rfl,q⟩
theorem xF (hc:X.calm=true):iS X (.builtin "all") (fun xs H Q=>∃(a:Addr) (bs:List Bool),xs=[.ref a]/\SqL X.K H a (bs.map V.bl)/\Q (.bl (bs.all id)) H):=by
 intro pins s σ H xs us Q I r h
 obtain⟨a,bs,rfl,hq,q⟩:=h
 obtain⟨u,rfl,rx⟩:=lC r
 cases rx
 obtain⟨its,r',pl,hz⟩:=I.list hq
 obtain⟨m,F⟩:=I.fr
 exact LSm.all_bools F qT (I.ok.hd hc) pl.isList (nY r') fun h' tk F' N'=>⟨.bl _,H,I.byNews F.ns F' N',rfl,q⟩
theorem cL.get {P:Program} {w:World} {H:Hp} {h:Heap} {a:Addr} {o:HO} (x:cL P w H h a o):∃u,h.get? a=some u:=by
 cases o with
 | lst xs=>obtain⟨_,_,_,_,e⟩:=x;exact⟨_,e⟩
 | tup xs=>obtain⟨_,_,_,o,e,_⟩:=x;exact⟨_,e⟩
 | dK kvs=>obtain⟨_,_,_,_,o,_,_,e,_⟩:=x;exact⟨_,e⟩
 | dT kvs=>obtain⟨_,_,_,_,o,_,_,e,_⟩:=x;exact⟨_,e⟩
 | set S n=>obtain⟨o,_,_,_,e,_⟩:=x;exact⟨_,e⟩
 | ins C dx fs=>obtain⟨_,_,_,e,_⟩:=x;exact⟨_,e⟩
 | own y=>obtain⟨_,e⟩:=x;exact⟨_,e⟩
 | xd fs=>obtain⟨_,⟨_,_,_,e,_⟩,_⟩:=x;exact⟨_,e⟩
 | rng lo hi=>obtain⟨_,_,_,e⟩:=x;exact⟨_,e⟩
 | frz ob u=>obtain⟨e,_⟩:=x;exact⟨_,e⟩
 | tbl ps=>exact⟨_,show h.get? a=some _ from x⟩
 | met f y=>exact⟨_,show h.get? a=some _ from x⟩
 | ext φ=>obtain⟨_,⟨_,e⟩,_⟩:=x;exact⟨_,e⟩
theorem Inv.byNewsL {pins:List (Addr × Obj)} {σ:St} {H:Hp} {s:Shared} {h':Heap} {tk:Nat} {m:Str->Option Value} {D:Addr} {zs:List V} (I:Inv X pins σ H s) (hn:s.heap.Ns X.env.locals m) (hns:h'.Ns X.env.locals m)
  (keep:∀b o,b≠X.env.locals->s.heap.get? b=some o->h'.get? b=some o) (hD:s.heap.get? D=none) (hl:zs.length<=sizeLine) {its:List Value} {n:Nat} (rv:cE zs its) (at_:h'.get? D=some { cls:=.type "list",data:=.seq its.toArray n }):
  H D=none/\Inv X pins σ (upd H D (.lst zs)) { s with heap:=h',toks:=tk }:=by
 have hH:H D=none:=by
  cases z:H D with
  | none=>rfl
  | some o=>
   obtain⟨u,e⟩:=(I.hok D o z).get
   rw [hD] at e;cases e
 refine⟨hH,?_⟩
 have ne:∀b o,s.heap.get? b=some o->b≠D:=fun b o e z=>by
  rw [z,hD] at e;cases e
 have neH:∀b o,H b=some o->b≠D:=fun b o e z=>by
  rw [z,hH] at e;cases e
 refine I.step (g':=s.gens) (d':=s.drawn) (ch:=[]) (fun _ z=>nomatch z) (fun b o hb _ _ e _=>keep b o hb e) (fun b o hb _ _ e _=>⟨o.slots,keep b o hb e⟩) (fun b o _ e n=>by rw [aG (ne b o e)];exact n) (fun b o _ e=>?_) (fun b xs e=>by rw [aG (neH b _ e)];exact e) (fun b o u e=>by rw [aG (neH b _ e)];exact e) (fun b ps e=>⟨#[],by rw [aG (neH b _ e)];simpa using e⟩) (fun m' hm=>?_) (fun b o q=>?_) I.bare
 ·by_cases hb:b=X.env.locals
  ·subst hb
   obtain⟨o',_,_,z,_⟩:=hns
   exact⟨o',z⟩
  ·exact⟨o,keep b o hb e⟩
 ·have:m'=m:=funext fun x=>hm.agree hn x
  subst this
  exact hns
 ·by_cases hb:b=D
  ·subst hb
   rw [aD] at q
   cases q
   exact⟨hl,its,n,rv,at_⟩
  ·rw [aG hb] at q
   refine(I.hok b o q).stay (fun c w' hc r=>keep c w' ?_ r) (fun c e=>by rw [aG (neH c _ e)];exact e) fun c xs e=>by rw [aG (neH c _ e)];exact e
   rintro rfl
   rcases hc with hc|hc
   ·rw [<- hc,I.free] at q;cases q
   ·rw [I.free] at hc;cases hc
theorem jS:∀{ns:List Int} {us:List Value} {i:Nat},cE (ns.map V.int) us->i<ns.length->∃t,us.getD i .none=.int (ns.getD i 0) t
 | n::ns,_,0,.cons ⟨t,e⟩ r,_=>⟨t,e⟩
 | n::ns,_,i+1,.cons e r,h=>jS (i:=i) r (by simpa using h)
theorem wU:∀{ns:List Int} {us:List Value},cE (ns.map V.int) us->IntsAre us ns
 | [],_,.nil=>.nil
 | n::ns,_,.cons ⟨t,e⟩ r=>by
  subst e
  exact .cons n t (wU r)
theorem AcC {prog:Program} {w:World} {A:Around} {E:Value->Shared->Prop} {s:Shared} {D:Addr} {vs:List Value} {ns:List Int} {n:Nat} {Q:Value->Shared->Prop} (ho:s.heap.get? D=some (seqObj "list" vs.toArray n)) (rv:cE (ns.map V.int) vs) (h64:ns.length<64)
  (h:∀(os:List Value) (ns':List Int),cE (ns'.map V.int) os->ns'.Perm ns->ns'.Pairwise (·<=·)->Q .none { s with heap:=sortedHeap s.heap D vs os.toArray }):wpAny (model prog w) A (call (.builtin "list.sort") [.ref D]) Q E s:=by
 have hlen:vs.length=ns.length:=by
  have:=rv.length
  rw [List.length_map] at this
  omega
 refine wpAny_call_entry slot_list_sort ⟨_,ho,rfl⟩ entry_list_sort ?_ (args_list_sort _)
 refine sortT (G:=fun p=>p.toList.Perm (List.range ns.length)/\∀i j,i<=j->j<ns.length->ns.getD (p.getD i 0) 0<=ns.getD (p.getD j 0) 0) ho (by omega) (fun h2 s1 _=>?_) fun out hout=>⟨.none,rfl,?_⟩
 ·obtain⟨q1,q2⟩:=AcB (prog:=prog) (w:=w) (s:=s) ns (by omega) h64
  have kk:keyKind' vs.toArray=pure oneType':=by
   match vs,h2,wU rv with
   | v1::v2::r,_,ia=>exact keyKind_ints ia
  rw [kk]
  refine wpAny_pure ⟨rfl,?_⟩
  rw [hlen]
  refine nP (lt:=fun i j=>decide (ns.getD i 0<ns.getD j 0)) (fun i j C hi hj hC=>?_) (uW (n:=ns.length) (by omega)) ⟨rfl,q1,q2⟩
  obtain⟨t1,e1⟩:=jS rv hi
  obtain⟨t2,e2⟩:=jS rv hj
  unfold kas_cmp
  show wpAny _ _ (keyLt' _ (kas_item (vs.toArray.zip vs.toArray) i).1 (kas_item (vs.toArray.zip vs.toArray) j).1) _ _ _
  rw [kat_item rfl,kat_item rfl]
  show wpAny _ _ (keyLt' _ (vs.getD i .none) (vs.getD j .none)) _ _ _
  rw [e1,e2]
  exact kat_lt_int hC
 ·rcases hout with ⟨h2,rfl⟩|⟨p,⟨g1,g2⟩,g3,rfl⟩
  ·refine h vs ns rv (List.Perm.refl _) ?_
   match ns,hlen with
   | [],_=>exact List.Pairwise.nil
   | [k],_=>exact List.pairwise_singleton _ _
   | k::k'::r,z=>simp at z;omega
  ·have low:∀i ∈ p.toList,i<ns.length:=fun i hi=>List.mem_range.mp (g1.mem_iff.mp hi)
   have pl:p.toList.length=ns.length:=by rw [g1.length_eq,List.length_range]
   have e:p.map (fun i=>vs.getD i .none)=(p.toList.map fun i=>vs.getD i .none).toArray:=by
    apply Array.ext'
    simp
   rw [e]
   refine h _ (p.toList.map fun i=>ns.getD i 0) ?_ ?_ ?_
   ·rw [List.map_map]
    exact gU _ _ fun i hi=>by
     obtain⟨t,e⟩:=jS rv (low i hi)
     exact⟨t,e⟩
   ·have:=g1.map fun i=>ns.getD i 0
    have e2:(List.range ns.length).map (fun i=>ns.getD i 0)=ns:=by
     apply List.ext_getElem
     ·simp
     ·intro i h1 h2
      simp [List.getD_eq_getElem?_getD,h2]
    rwa [e2] at this
   ·rw [List.pairwise_iff_getElem]
    intro i j hi hj hij
    have hj':j<ns.length:=by rw [List.length_map,pl] at hj;exact hj
    have k:=g2 i j (by omega) hj'
    have g:∀i (h:i<p.toList.length),p.getD i 0=p.toList[i]:=fun i h=>by
     have:i<p.size:=by simpa using h
     simp [Array.getD,this]
    rw [g i (by omega),g j (by omega)] at k
    rw [List.getElem_map,List.getElem_map]
    exact k
theorem vC (hc:X.calm=true):iS X (.builtin "sorted") (fun xs H Q=>∃(a:Addr) (kvs:List (Key × V)) (ns:List Int),xs=[.ref a]/\H a=some (.dK kvs)/\kvs.map (·.1)=ns.map Sum.inl/\ns.length<64 /\
  ∀(l:Addr) (ns':List Int),H l=none->ns'.Perm ns->ns'.Pairwise (·<=·)->Q (.ref l) (upd H l (.lst (ns'.map V.int)))):=by
 intro pins s σ H xs us Q I r h
 obtain⟨a,kvs,ns,rfl,hq,hk,h64,q⟩:=h
 obtain⟨u,rfl,rx⟩:=lC r
 cases rx
 obtain⟨hz,hS,vs,rv,o,es,ep,d1,d2,d3,d4,d5,d6⟩:=I.hok a _ hq
 have sl:sizeLine=16777216:=sizeLine_eq
 have vl:kvs.length=vs.length:=Paired.length rv
 have kl:kvs.length=ns.length:=by
  have:=congrArg List.length hk
  rwa [List.length_map,List.length_map] at this
 obtain⟨m,F⟩:=I.fr
 have keys:vs.map (·.1)=ns.map Sum.inl:=by
  rw [<- hk]
  clear hk hq d5 d6 vl kl hz q
  induction rv with
  | nil=>rfl
  | cons e t ih=>rw [List.map_cons,List.map_cons,ih,e.1]
 refine kdu_sorted (kdl_dict (knd:=cY X.prog X.w) (kvs:=vs) (ep:=ep) hS) (I.ok.hd hc) F qT ⟨o,es,d1,d2,d3,d4,d5,d6⟩ (by omega) fun D h' tk us F' N' above hlen hP=>?_
 have uints:∀j (hj:j<us.length),∃t,us[j]=.int (ns.getD j 0) t:=fun j hj=>by
  obtain⟨k,x,e1,e2⟩:=hP j us[j] (List.getElem?_eq_getElem hj)
  have e3:(vs.map (·.1))[j]?=some k:=by rw [List.getElem?_map,e1];rfl
  rw [keys,List.getElem?_map] at e3
  have hj':j<ns.length:=by omega
  rw [List.getElem?_eq_getElem hj'] at e3
  have e3:Sum.inl ns[j]=k:=Option.some.inj e3
  subst e3
  obtain⟨t,e⟩:=Value.isInt_shape (k:=ns[j]) (v:=us[j]) e2
  exact⟨t,by rw [e,List.getD_eq_getElem?_getD,List.getElem?_eq_getElem hj'];rfl⟩
 have rvU:cE (ns.map V.int) us:=by
  have e1:us=(List.range us.length).map fun j=>us.getD j .none:=by
   apply List.ext_getElem
   ·simp
   ·intro i h1 h2
    simp [List.getD_eq_getElem?_getD,h1]
  have e2:ns.map V.int=(List.range us.length).map fun j=>V.int (ns.getD j 0):=by
   apply List.ext_getElem
   ·simp;omega
   ·intro i h1 h2
    have:i<ns.length:=by simpa using h1
    simp [List.getD_eq_getElem?_getD,this]
  rw [e2]
  rw [e1]
  simp only [List.length_map,List.length_range]
  refine gU _ _ fun j hj=>?_
  have hj':j<us.length:=List.mem_range.mp hj
  obtain⟨t,e⟩:=uints j hj'
  refine⟨t,?_⟩
  rw [<- e,List.getD_eq_getElem?_getD,List.getElem?_eq_getElem hj']
  rfl
 have hDn:=N' (D,W.listOf us.toArray 0) (List.mem_cons_self ..)
 have hD0:s.heap.get? D=none:=by
  cases z:s.heap.get? D with
  | none=>rfl
  | some ob=>
   have:=above (D,ob) (jG hDn.2.1 hDn.2.2 z)
   exact absurd this (Nat.lt_irrefl _)
 have keep:∀b ob,b≠X.env.locals->s.heap.get? b=some ob->h'.get? b=some ob:=fun b ob hb e=>by
  cases z:X.base.get? b with
  | some o'=>
   have:=I.bk b o' z
   rw [e] at this
   cases this
   exact F'.keep b ob z
  | none=>exact(N' (b,ob) (List.mem_cons_of_mem _ (jG hb z e))).1
 refine AcC (n:=0) hDn.1 rvU h64 fun os ns' r' pm pw=>?_
 obtain⟨c,at_⟩:=sortedHeap_at (out:=os.toArray) (show h'.get? D=some (seqObj "list" us.toArray 0) from hDn.1)
 have old:∀b ob,b≠D->h'.get? b=some ob->(sortedHeap h' D us os.toArray).get? b=some ob:=fun b ob hb e=>by
  rw [sortedHeap_old hb (Heap.lt_size e)]
  exact e
 have ns'l:ns'.length=ns.length:=pm.length_eq
 have hns:(sortedHeap h' D us os.toArray).Ns X.env.locals m:=by
  obtain⟨o1,e1,e2,z,rr⟩:=F'.ns
  exact⟨o1,e1,e2,old _ _ hDn.2.1.symm z,rr⟩
 obtain⟨z1,I1⟩:=I.byNewsL (tk:=tk) (zs:=ns'.map V.int) F.ns hns (fun b ob hb e=>old b ob (fun z=>by rw [z,hD0] at e;cases e) (keep b ob hb e)) hD0 (by rw [List.length_map];omega) r' at_
 exact⟨.ref D,_,I1,rfl,q D ns' z1 pm pw⟩
theorem sS:OpR X (compareOp .LtE) (fun x y H Q=>∃i j,x=.str i/\y=.str j/\Q (.bl (!decide (j.cps.toList<i.cps.toList))) H):=by
 intro pins s σ H x y v u Q I rx ry h
 obtain⟨i,j,rfl,rfl,q⟩:=h
 obtain⟨t,rfl⟩:=rx
 obtain⟨t',rfl⟩:=ry
 exact PySem.P.le_str ⟨.bl _,H,I,rfl,q⟩
end
section
variable {prog:Program} {w:World} {A:Around} {E:Value->Shared->Prop} {s:Shared}
theorem xO {α:Type} {M:Model} {c:Prop} [Decidable c] {a b:Sem α} {Q:α->Shared->Prop} (h1:c->wpAny M A a Q E s) (h2:¬ c->wpAny M A b Q E s):wpAny M A (if c then a else b) Q E s:=by
 split
 ·exact h1 ‹_›
 ·exact h2 ‹_›
theorem zV {t:Addr} {items:Array Value} {i:Int} {u:Tok} {Q:Value->Shared->Prop} (ht:IsTup s.heap t items) (hi:Builtin.SmallTypes.fitsIndex i=true)
  (hQ:∀h':Heap,IsEnum h' (s.heap.objs.size+1) s.heap.objs.size i .none->h'.IsTupleIter s.heap.objs.size t 0->h'.objs.size=s.heap.objs.size+2->(∀b o,s.heap.get? b=some o->h'.get? b=some o)->Q (.ref (s.heap.objs.size+1)) { s with heap:=h' }):
  wpAny (model prog w) A (call (.type "enumerate") [.ref t] [("start",.int i u)]) Q E s:=by
 refine wpAny_call (codeAny_of_tree ?_)
 refine wpAny_pure ⟨Code.quiet_builtin _ callType_meets._proof_1_1,codeAny_builtin F.entry_type_call ?_⟩
 rw [Around.under_plain (weight_type_call_type "enumerate" [.ref t] [("start",.int i u)]) (units_type_call_type "enumerate" [.ref t] [("start",.int i u)])]
 have ft:=F.called_enumerate
 unfold Builtin.«type.__call__»
 refine wpAny_ite_false (by decide) ?_
 refine wpAny_ite_false (by rw [ft.canCreate];decide) ?_
 have hct:checkTypeCall "enumerate" { pos:=[.ref t],kw:=[("start",.int i u)] }=pure ():=by rfl
 obtain⟨c,tl,hmro⟩:=ft.mro
 have hmade:=ft.made
 refine wpAny_bind (wpAny_of_eq hct ?_)
 refine wpAny_bind (wpAny_of_eq hmro ?_)
 refine wpAny_ite_false (by simp) ?_
 refine wpAny_bind (wpAny_of_eq hmade ?_)
 refine wpAny_bind (wpAny_pure ?_)
 refine wpAny_bind (wpAny_holding ?_)
 have hcn:checkBuiltinCall "enumerate.__new__" { pos:=[Value.type "enumerate",.ref t],kw:=[("start",.int i u)] }=pure ():=by kernel_rfl
 refine wpAny_call (codeAny_call_builtin ft.plain F.entry_enumerate_new (wpAny_of_eq hcn ?_))
 unfold Builtin.«enumerate.__new__»
 have hnc:Builtin.SmallTypes.newClass "enumerate" { pos:=[Value.type "enumerate",.ref t],kw:=[("start",.int i u)] }=pure (Value.type "enumerate",[.ref t]):=by rfl
 refine wpAny_bind (wpAny_of_eq hnc ?_)
 refine wpAny_ite_true (by decide) ?_
 refine wpAny_bind ?_
 unfold Builtin.SmallTypes.calledThroughType
 refine wpAny_bind (wpAny_stack_any fun st=>wpAny_pure ?_)
 have rest:∀(R:PySem.Fin->Shared->Prop) (E':Value->Shared->Prop),(∀h':Heap,IsEnum h' (s.heap.objs.size+1) s.heap.objs.size i .none->h'.IsTupleIter s.heap.objs.size t 0->h'.objs.size=s.heap.objs.size+2->(∀b o,s.heap.get? b=some o->h'.get? b=some o)->R (PySem.Fin.done (Flow.ret (.ref (s.heap.objs.size+1)))) { s with heap:=h' }) ->
   wpAny (model prog w) A.in1.in1 (do
    let obj <- Builtin.SmallTypes.indexObject "enumerate.__new__" (Value.int i u)
    let x <- asInt? obj
    match x with
    | some i=>
     if (!Builtin.SmallTypes.fitsIndex i)=true then do
      rule "enumerate.__new__.huge-start"
      match obj with
      | Value.int _ _=>do
       let given <- pure obj
       let it <- pyIter (.ref t)
       let r <- Builtin.SmallTypes.newRecord (Value.type "enumerate") (Builtin.SmallTypes.ownedTupleFields++[it,rawInt i,given,Value.none])
       ret r
      | _=>do
       let given <- mkInt i
       let it <- pyIter (.ref t)
       let r <- Builtin.SmallTypes.newRecord (Value.type "enumerate") (Builtin.SmallTypes.ownedTupleFields++[it,rawInt i,given,Value.none])
       ret r
     else do
      let it <- pyIter (.ref t)
      let r <- Builtin.SmallTypes.newRecord (Value.type "enumerate") (Builtin.SmallTypes.ownedTupleFields++[it,rawInt i,Value.none,Value.none])
      ret r
    | none=>do
     let _ <- (unsupported "internal:enumerate.__new__":Sem Unit)
     let it <- pyIter (.ref t)
     let r <- Builtin.SmallTypes.newRecord (Value.type "enumerate") (Builtin.SmallTypes.ownedTupleFields++[it,rawInt 0,Value.none,Value.none])
     ret r) R E' s:=fun R E' hR=>by
  refine wpAny_bind (wpAny_of_eq (a:=Value.int i u) (by rfl) ?_)
  refine wpAny_bind (wpAny_of_eq (a:=some i) (by rfl) ?_)
  refine wpAny_ite_false (by rw [hi];decide) ?_
  refine wpAny_bind (wpAny_pyIter_tuple (show s.heap.IsTuple t items from ht) ?_)
  refine wpAny_bind ?_
  show wpAny _ _ (newObj (Value.type "enumerate") (Data.fields #[Value.none,Value.bool false,.ref s.heap.objs.size,rawInt i,Value.none,Value.none])) _ _ _
  refine wpAny_newObj_type ?_
  refine wpAny_pure ?_
  have sz:(s.heap.push { cls:=Value.type "tuple_iterator",data:=Data.fields #[Value.ref t,Value.int 0 0] }).objs.size=s.heap.objs.size+1:=by rw [Heap.size_push]
  rw [sz]
  refine hR _ ?_ ?_ ?_ ?_
  ·rw [<- sz]
   exact Heap.get?_push_size _ rfl
  ·exact⟨_,Heap.get?_push_of_some _ (Heap.get?_push_size _ rfl),rfl,rfl⟩
  ·rw [Heap.size_push,sz]
  ·exact fun b o e=>Heap.get?_push_of_some _ (Heap.get?_push_of_some _ e)
 refine xO (fun _=>?_) (fun _=>?_)
 all_goals
  refine wpAny_bind (wpAny_of_eq (a:=(Value.ref t,some (Value.int i u))) (by kernel_rfl) ?_)
  refine rest _ _ fun h' e1 e2 e3 e4=>?_
  show wpAny _ _ (isInstance (Value.ref (s.heap.objs.size+1)) (Value.type "enumerate") >>= _) _ _ _
  refine wpAny_bind (wpAny_isInstance ⟨_,e1,rfl⟩ ft.sub ?_)
  refine wpAny_ite_false (by decide) ?_
  refine wpAny_bind (wpAny_holding (wpAny_callSpecial?_slot ⟨_,e1,rfl⟩ ft.init ?_))
  refine wpAny_call_entry_kw ft.init ⟨_,e1,rfl⟩ F.entry_object_init ?_ (by kernel_rfl)
  unfold Builtin.«object.__init__»
  refine wpAny_ite_true (by rfl) ?_
  refine wpAny_bind (wpAny_typeOf ⟨_,e1,rfl⟩ ?_)
  refine wpAny_bind (wpAny_of_eq ft.init.lookup ?_)
  refine wpAny_bind (wpAny_of_eq hmade ?_)
  refine wpAny_ite_false (by decide) ?_
  refine wpAny_ite_false (by kernel_rfl) ?_
  refine wpAny_pure ⟨_,rfl,?_⟩
  refine wpAny_ite_false (by decide) ?_
  refine wpAny_pure ?_
  exact hQ h' e1 e2 e3 e4
theorem zK {it t:Addr} {i:Nat} {items:Array Value} {x:Value} {Q:Value->Shared->Prop} (hit:IsTupIter s.heap it t i) (ht:IsTup s.heap t items) (hx:items[i]?=some x)
  (hQ:∀h',IsTupIter h' it t (i+1)->Heap.SameBut it s.heap h'->Q x { s with heap:=h' }):wpAny (model prog w) A (Builtin.SmallTypes.nextOf (.ref it)) Q E s:=by
 obtain⟨o,ho,hc,hd⟩:=id hit
 obtain⟨ol,hol,hcl,nl,hdl⟩:=id ht
 unfold Builtin.SmallTypes.nextOf
 refine wpAny_bind (wpAny_callSpecial?_slot hit.typeIs slot_tupleiter_next (wpAny_call_entry slot_tupleiter_next hit.typeIs entry_tupleiter_next ?_ (args_tupleiter_next _)))
 show wpAny _ _ (field (Value.ref it) 0 >>= _) _ _ _
 refine wpAny_bind (wpAny_field ho hd (x:=.ref t) rfl ?_)
 refine wpAny_ite_false (by rfl) ?_
 refine wpAny_bind (wpAny_field ho hd (x:=.int i 0) rfl ?_)
 refine wpAny_bind (wpAny_seqItems hol hdl ?_)
 show wpAny _ _ (match items[((i:Int)).toNat]? with|some x=>_|none=>_) _ _ _
 rw [Int.toNat_natCast,hx]
 refine wpAny_bind (wpAny_setField ho hd (by simp) ?_)
 refine wpAny_pure ⟨x,rfl,wpAny_pure (hQ _ ⟨_,Heap.get?_update_self _ ho (Obj.isFreed_of_fields (Obj.data_mapFields hd _)),(Obj.cls_mapFields o _).trans hc,?_⟩ (Heap.SameBut.update s.heap it _))⟩
 rw [Obj.data_mapFields hd]
 simp [rawInt]
theorem jF {it t:Addr} {i:Nat} {items:Array Value} {Q:Value->Shared->Prop} (hh:A.handled=none) (hit:IsTupIter s.heap it t i) (ht:IsTup s.heap t items) (hx:items[i]?=none)
  (hE:∀h' e,Heap.ExtBut it s.heap h'->(∃o,h'.get? e=some o/\o.cls=Value.type "StopIteration")->E (.ref e) { s with heap:=h' }):wpAny (model prog w) A (Builtin.SmallTypes.nextOf (.ref it)) Q E s:=by
 obtain⟨o,ho,hc,hd⟩:=id hit
 obtain⟨ol,hol,hcl,nl,hdl⟩:=id ht
 unfold Builtin.SmallTypes.nextOf
 refine wpAny_bind (wpAny_callSpecial?_slot hit.typeIs slot_tupleiter_next (wpAny_call_entry slot_tupleiter_next hit.typeIs entry_tupleiter_next ?_ (args_tupleiter_next _)))
 show wpAny _ _ (field (Value.ref it) 0 >>= _) _ _ _
 refine wpAny_bind (wpAny_field ho hd (x:=.ref t) rfl ?_)
 refine wpAny_ite_false (by rfl) ?_
 refine wpAny_bind (wpAny_field ho hd (x:=.int i 0) rfl ?_)
 refine wpAny_bind (wpAny_seqItems hol hdl ?_)
 show wpAny _ _ (match items[((i:Int)).toNat]? with|some x=>_|none=>_) _ _ _
 rw [Int.toNat_natCast,hx]
 refine wpAny_bind (wpAny_rule ?_)
 refine wpAny_bind (wpAny_setField ho hd (by simp) ?_)
 unfold Builtin.SmallTypes.stopIteration
 refine wpAny_bind ?_
 unfold newExc
 refine wpAny_bind (wpAny_newTuple ?_ (Nat.zero_le _))
 refine wpAny_bind (wpAny_of_eq rfl ?_)
 refine wpAny_newObj_type ?_ (sizeOk_excFields _ _ _ _ _ _ _ _)
 unfold raiseNew
 refine wpAny_bind (wpAny_handled ?_)
 rw [show A.in1.handled=none from hh]
 refine wpAny_throw ?_
 refine hE _ _ (fun b ob hb e=>?_) ⟨_,Heap.get?_push_size _ rfl,rfl⟩
 refine Heap.get?_push_of_some _ (Heap.get?_push_of_some _ ?_)
 rw [Heap.get?_update_ne _ _ _ _ hb]
 exact e
theorem AdM {it t:Addr} {items:Array Value} (hh:A.handled=none) (ne:t≠it):Draws prog w A it [it,t] items.size (fun i v=>items[i]?=some v) (fun i h=>IsTupIter h it t i/\IsTup h t items) where
 live:=fun i h ⟨⟨o,ho,_⟩,_⟩=>⟨o,ho⟩
 frame:=fun i h h' ⟨⟨o,ho,r⟩,⟨o',ho',r'⟩⟩ k=>⟨⟨o,k it (by simp) o ho,r⟩,⟨o',k t (by simp) o' ho',r'⟩⟩
 item:=fun i s Q E hi st h=>zK st.1 st.2 (Array.getElem?_eq_getElem hi) fun h' hit' sb=>h _ h' s.toks (Array.getElem?_eq_getElem hi) ⟨hit',by
  obtain⟨o',ho',r'⟩:=st.2
  exact⟨o',(sb.2 t ne).trans ho',r'⟩⟩ sb
 done:=fun s Q E st h=>jF hh st.1 st.2 (by simp) h
theorem AcU {e it:Addr} {fp:List Addr} {n j:Nat} {i:Int} {P:Nat->Value->Prop} {St:Nat->Heap->Prop} {old:Value} {Q:Option Value->Shared->Prop} (D:Draws prog w A.in1 it fp n P St) (he:IsEnum s.heap e it i old) (hst:St j s.heap) (hlt:j<n) (hne:e≠it) (hef:e ∉ fp)
  (hQ:∀x h' tk,P j x->IsEnumOut h' e it (i+1) x s.heap.objs.size->St (j+1) h'->h'.get? s.heap.objs.size=some { cls:=Value.type "tuple",data:=Data.seq #[Value.int i tk,x] }->h'.objs.size=s.heap.objs.size+1 ->
   (∀b o,b≠e->b≠it->s.heap.get? b=some o->h'.get? b=some o)->Q (some (.ref s.heap.objs.size)) { s with heap:=h',toks:=tk+1 }):wpAny (model prog w) A (pyNext (.ref e)) Q E s:=by
 have hT:s.TypeIs (.ref e) "enumerate":=⟨_,he,rfl⟩
 show wpAny _ _ (_ >>= _) _ _ _
 refine wpAny_bind (wpAny_attempt (wpAny_callSpecial?_slot hT F.slot_enumerate_next (wpAny_call_entry F.slot_enumerate_next hT F.entry_enumerate_next ?_ (F.args_enumerate_next_1 _))))
 unfold Builtin.«enumerate.__next__»
 refine wpAny_bind (wpAny_of_eq (a:=(Value.ref e,[])) (by rfl) ?_)
 refine wpAny_bind (wpAny_field he rfl rfl ?_)
 refine wpAny_bind (D.item j s _ _ hlt hst fun x h1 tk hx st1 sb1=>?_)
 have he1:=(sb1.2 e hne).trans he
 refine wpAny_bind (wpAny_field he1 rfl rfl ?_)
 refine wpAny_bind (wpAny_field he1 rfl rfl ?_)
 refine wpAny_ite_true (by rfl) ?_
 refine wpAny_bind (wpAny_mkInt ?_)
 refine wpAny_bind (wpAny_setField_rec he1 (by simp) fun h2 he2 sb2=>?_)
 refine wpAny_bind (wpAny_setField_rec he2 (by simp) fun h3 he3 sb3=>?_)
 refine wpAny_bind (wpAny_newTuple ?_ (by show 2<=sizeLine;decide))
 have he4:(h3.push { cls:=Value.type "tuple",data:=Data.seq #[Value.int i tk,x] }).get? e=some { cls:=Value.type "enumerate",data:=Data.fields #[Value.none,Value.bool false,Value.ref it,rawInt (i+1),Value.none,old] }:=Heap.get?_push_of_some _ he3
 unfold Builtin.SmallTypes.ownedTupleIsFree
 refine wpAny_bind (wpAny_bind (wpAny_field he4 rfl rfl (wpAny_pure ?_)))
 refine wpAny_ite_true (by rfl) ?_
 refine wpAny_bind (wpAny_rule ?_)
 refine wpAny_bind (wpAny_field he4 rfl rfl ?_)
 refine wpAny_bind (wpAny_setField_rec he4 (by simp) fun h5 he5 sb5=>?_)
 unfold Builtin.SmallTypes.ownedTupleHandOut
 refine wpAny_bind (wpAny_bind (wpAny_setField_rec he5 (by simp) fun h6 he6 sb6=>?_))
 refine wpAny_setField_rec he6 (by simp) fun h7 he7 sb7=>?_
 refine wpAny_bind (wpAny_letGo ?_)
 have sz3:h3.objs.size=s.heap.objs.size:=sb3.1.trans (sb2.1.trans sb1.1)
 have sz4:(h3.push { cls:=Value.type "tuple",data:=Data.seq #[Value.int i tk,x] }).objs.size=s.heap.objs.size+1:=by rw [Heap.size_push,sz3]
 have sz7:h7.objs.size=s.heap.objs.size+1:=sb7.1.trans (sb6.1.trans (sb5.1.trans sz4))
 have el:e<s.heap.objs.size:=Heap.lt_size he
 have old7:∀b o,b≠e->(h3.push { cls:=Value.type "tuple",data:=Data.seq #[Value.int i tk,x] }).get? b=some o->h7.get? b=some o:=fun b o hb z=>(sb7.2 b hb).trans ((sb6.2 b hb).trans ((sb5.2 b hb).trans z))
 have k1:∀b o,b≠e->h1.get? b=some o->h7.get? b=some o:=fun b o hb z=>old7 b o hb (Heap.get?_push_of_some _ ((sb3.2 b hb).trans ((sb2.2 b hb).trans z)))
 refine wpAny_pure ⟨_,rfl,?_⟩
 show wpAny _ _ (pure (some (Value.ref h3.objs.size))) _ _ _
 refine wpAny_pure ?_
 rw [sz3]
 have he7':h7.get? e=some { cls:=Value.type "enumerate",data:=Data.fields #[rawInt (h3.objs.size:Nat),Value.bool false,Value.ref it,rawInt (i+1),Value.none,x] }:=he7
 rw [sz3] at he7'
 refine hQ x h7 tk hx he7' (D.frame (j+1) h1 h7 st1 fun b hb o z=>k1 b o (fun q=>hef (q ▸ hb)) z) ?_ sz7 fun b o hb hb' z=>k1 b o hb ((sb1.2 b hb').trans z)
 refine old7 _ _ (Nat.ne_of_gt el) ?_
 rw [<- sz3]
 exact Heap.get?_push_size _ rfl
theorem rV {e it t:Addr} {j:Nat} {i:Int} {items:Array Value} {old:Value} {Q:Option Value->Shared->Prop} (hh:A.handled=none) (he:IsEnum s.heap e it i old) (hit:IsTupIter s.heap it t j) (ht:IsTup s.heap t items) (hx:items[j]?=none)
  (hQ:∀h',Heap.ExtBut it s.heap h'->Q none { s with heap:=h' }):wpAny (model prog w) A (pyNext (.ref e)) Q E s:=by
 have hT:s.TypeIs (.ref e) "enumerate":=⟨_,he,rfl⟩
 show wpAny _ _ (_ >>= _) _ _ _
 refine wpAny_bind (wpAny_attempt (wpAny_callSpecial?_slot hT F.slot_enumerate_next (wpAny_call_entry F.slot_enumerate_next hT F.entry_enumerate_next ?_ (F.args_enumerate_next_1 _))))
 unfold Builtin.«enumerate.__next__»
 refine wpAny_bind (wpAny_of_eq (a:=(Value.ref e,[])) (by rfl) ?_)
 refine wpAny_bind (wpAny_field he rfl rfl ?_)
 exact wpAny_bind (jF hh hit ht hx fun h' x he' ⟨o,ho,hc⟩=>wpAny_bind (wpAny_isInstance ⟨o,ho,hc⟩ isSubtype_stop (wpAny_pure (hQ h' he'))))
end
section
variable {X:Cx}
theorem Inv.turnedL {pins:List (Addr × Obj)} {σ:St} {H:Hp} {s:Shared} {h':Heap} {tk:Nat} {ch:List Addr} {T:Addr} {zs:List V} (I:Inv X pins σ H s) (hf:∀b ∈ ch,iV X pins H b) (k:∀b o,b ∉ ch->s.heap.get? b=some o->h'.get? b=some o)
  (hT:s.heap.objs.size<=T) (new:cL X.prog X.w (upd H T (.tup zs)) h' T (.tup zs)):Inv X pins σ (upd H T (.tup zs)) { s with heap:=h',toks:=tk }:=by
 have hH:H T=none:=I.hok.fresh hT
 have ne:∀b o,s.heap.get? b=some o->b≠T:=fun b o e z=>by
  have:=Heap.lt_size e
  rw [z] at this
  exact absurd (Nat.lt_of_lt_of_le this hT) (Nat.lt_irrefl _)
 have neH:∀b o,H b=some o->b≠T:=fun b o e z=>by
  rw [z,hH] at e;cases e
 have lch:X.env.locals ∉ ch:=fun z=>(hf _ z).2.1 rfl
 refine I.step (g':=s.gens) (d':=s.drawn) (ch:=ch) (fun b hb=>⟨(hf b hb).2.2.2.1,(hf b hb).2.1,(hf b hb).2.2.2.2.1,(hf b hb).2.2.2.2.2⟩) (fun b o _ _ hc e _=>k b o hc e) (fun b o _ _ hc e _=>⟨o.slots,k b o hc e⟩) (fun b o _ e n=>by rw [aG (ne b o e)];exact n) (fun b o hc e=>⟨o,k b o hc e⟩) (fun b xs e=>by rw [aG (neH b _ e)];exact e) (fun b o u e=>by rw [aG (neH b _ e)];exact e) (fun b ps e=>⟨#[],by rw [aG (neH b _ e)];simpa using e⟩) (fun m' hm=>?_) (fun b o q=>?_) I.bare
 ·obtain⟨o,es,ep,z,r⟩:=hm
  exact⟨o,es,ep,k _ _ lch z,r⟩
 ·by_cases hb:b=T
  ·subst hb
   rw [aD] at q
   cases q
   exact new
  ·rw [aG hb] at q
   refine(I.hok b o q).stay (fun c w' hc r=>k c w' ?_ r) (fun c e=>by rw [aG (neH c _ e)];exact e) fun c xs e=>by rw [aG (neH c _ e)];exact e
   intro z
   rcases hc with hc|hc
   ·rw [<- hc,(hf c z).1] at q;cases q
   ·rw [(hf c z).1] at hc;cases hc
theorem Inv.turnedN {pins:List (Addr × Obj)} {σ:St} {H:Hp} {s:Shared} {h':Heap} {tk:Nat} {ch:List Addr} (I:Inv X pins σ H s) (hf:∀b ∈ ch,iV X pins H b) (k:∀b o,b ∉ ch->s.heap.get? b=some o->h'.get? b=some o):Inv X pins σ H { s with heap:=h',toks:=tk }:=by
 have lch:X.env.locals ∉ ch:=fun z=>(hf _ z).2.1 rfl
 refine I.step (g':=s.gens) (d':=s.drawn) (ch:=ch) (fun b hb=>⟨(hf b hb).2.2.2.1,(hf b hb).2.1,(hf b hb).2.2.2.2.1,(hf b hb).2.2.2.2.2⟩) (fun b o _ _ hc e _=>k b o hc e) (fun b o _ _ hc e _=>⟨o.slots,k b o hc e⟩) (fun b o _ e n=>n) (fun b o hc e=>⟨o,k b o hc e⟩) (fun b xs e=>e) (fun b o u e=>e) (fun b ps e=>⟨#[],by simpa using e⟩) (fun m' hm=>?_) (fun b o q=>?_) I.bare
 ·obtain⟨o,es,ep,z,r⟩:=hm
  exact⟨o,es,ep,k _ _ lch z,r⟩
 ·refine(I.hok b o q).stay (fun c w' hc r=>k c w' ?_ r) (fun c e=>e) fun c xs e=>e
  intro z
  rcases hc with hc|hc
  ·rw [<- hc,(hf c z).1] at q;cases q
  ·rw [(hf c z).1] at hc;cases hc
def Ite (K:PySem.W.Frag) (t:Addr) (dI:Int):It:=
 ⟨fun i H=>∃xs x,SqT K H t xs/\xs[i]?=some x,fun i H x H'=>∃T v,H T=none/\x=.ref T/\H'=upd H T (.tup [.int (dI+i),v])/\∀xs,SqT K H t xs->xs[i]?=some v,fun i H=>∃xs,SqT K H t xs/\xs.length<=i⟩
theorem AcA {P:Program} {hd0:Option Value} {w:World} {K:PySem.W.Frag} {elts:List Expr} {k1:Nat} {pos:Pos} {t e it:Addr} {dI:Int} (hne:e≠it) (e0:hd0=none):xL P w K hd0 (.Tuple elts k1 pos) (Ite K t dI) [e,it] e (fun i h=>(∃old,IsEnum h e it (dI+i) old)/\IsTupIter h it t i) where
 mem:=by simp
 obj:=fun i h ⟨⟨old,he⟩,⟨o,ho,_,hd⟩⟩ b hb=>by
  rcases List.mem_cons.mp hb with rfl|hb
  ·exact⟨_,he,fun v z=>by cases z⟩
  ·have e1:b=it:=by simpa using hb
   subst e1
   exact⟨o,ho,fun v z=>by rw [hd] at z;cases z⟩
 keep:=fun i h h' ⟨⟨old,he⟩,⟨o,ho,r⟩⟩ k=>⟨⟨old,k e (by simp) _ he⟩,⟨o,k it (by simp) o ho,r⟩⟩
 item:=by
  intro X hP hw hK hc i pins s σ H E I hf st hg
  subst hP hw hK
  obtain⟨xs,x,hq,hx⟩:=hg
  obtain⟨its,rv,p,hz⟩:=I.tuple hq
  obtain⟨u,hu,ru⟩:=rv.get hx
  obtain⟨⟨old,he⟩,hit⟩:=st
  have hts:t≠it:=fun z=>by
   obtain⟨o1,z1,z2,_⟩:=hit
   obtain⟨o2,y1,y2,_⟩:=p
   rw [z,z1] at y1
   cases y1
   rw [z2] at y2
   injection y2 with y2
   exact absurd y2 (by decide)
  have hte:t≠e:=fun z=>by
   obtain⟨o2,y1,y2,_⟩:=p
   rw [z,he] at y1
   cases y1
   injection y2 with y2
   exact absurd y2 (by decide)
  have D:Draws X.prog X.w X.A.in1 it [it,t] its.toArray.size (fun i v=>its.toArray[i]?=some v) (fun i h=>IsTupIter h it t i/\IsTup h t its.toArray):=AdM (hc.trans e0) hts
  have hlt:i<its.toArray.size:=by
   have:=(List.getElem?_eq_some_iff.mp hu).1
   simpa using this
  refine AcU D he ⟨hit,p⟩ hlt hne (by simp [hne,hte.symm]) fun y h1 tk hy ho st1 hT hz1 kp=>⟨_,rfl,?_⟩
  have ey:y=u:=by
   have:its.toArray[i]?=some u:=by simpa using hu
   exact Option.some.inj (hy.symm.trans this)
  subst ey
  refine wpAny_letOwnedTupleGo_enum ho fun h2 he2 sb2=>?_
  have Tne:s.heap.objs.size≠e:=Nat.ne_of_gt (Heap.lt_size he)
  have T2:h2.get? s.heap.objs.size=some { cls:=Value.type "tuple",data:=Data.seq #[Value.int (dI+i) tk,y] }:=(sb2.2 _ Tne).trans hT
  have k2:∀b o,b ∉ [e,it]->s.heap.get? b=some o->h2.get? b=some o:=fun b o hb z=>by
   have h1':b≠e:=fun q=>hb (by simp [q])
   have h2':b≠it:=fun q=>hb (by simp [q])
   exact(sb2.2 b h1').trans (kp b o h1' h2' z)
  refine⟨.ref s.heap.objs.size,upd H s.heap.objs.size (.tup [.int (dI+i),x]),I.turnedL hf k2 (Nat.le_refl _) ⟨by show 2<=sizeLine;decide,[Value.int (dI+i) tk,y],.cons ⟨_,rfl⟩ (.cons ru .nil),⟨_,T2,rfl,_,rfl⟩⟩,rfl,⟨_,x,I.hok.fresh (Nat.le_refl _),rfl,rfl,fun ys hy'=>by rw [I.tuple_inj hy' hq];exact hx⟩,⟨⟨y,?_⟩,?_⟩,fun b hb=>?_⟩
  ·rw [show dI+((i+1:Nat):Int)=dI+i+1 by omega]
   exact he2
  ·obtain⟨o,z,r⟩:=st1.1
   exact⟨o,(sb2.2 it hne.symm).trans z,r⟩
  ·have lb:b<s.heap.objs.size:=by
    rcases List.mem_cons.mp hb with rfl|hb
    ·exact Heap.lt_size he
    ·have e1:b=it:=by simpa using hb
     subst e1
     obtain⟨o,z,_⟩:=hit
     exact Heap.lt_size z
   rw [aG (Nat.ne_of_lt lb)]
   exact(hf b hb).1
 done:=by
  intro X hP hw hK hc i pins s σ H E I hf st hg
  subst hP hw hK
  obtain⟨xs,hq,hx⟩:=hg
  obtain⟨its,rv,p,hz⟩:=I.tuple hq
  obtain⟨⟨old,he⟩,hit⟩:=st
  have hl:=rv.length
  exact rV (hc.trans e0) he hit p (by simp;omega) fun h' eb=>⟨rfl,I.turnedN (tk:=s.toks) hf fun b o hb z=>eb b o (fun q=>hb (by simp [q])) z⟩
 self:=fun _ _ _ _ _ ⟨⟨old,he⟩,_⟩ h=>wpAny_pyIter_enum he h
def iEnum (K:PySem.W.Frag) (ta td:TA):TI:=fun σ H R=>ta σ H fun xs H1=>td σ H1 fun ds H2=>∃(t:Addr) (d:Int),xs=[.ref t]/\ds=[.int d]/\Builtin.SmallTypes.fitsIndex d=true/\(∃ys,SqT K H2 t ys)/\R (Ite K t d) H2
theorem AaU {x:Str} {p pos kpos tpos:Pos} {a b:Expr} {elts:List Expr} {k1:Nat} {ta td:TA} (hg:Gl X x) (hm:X.mg x=none) (hv:bootBuiltins x=some (.type "enumerate")) (ha:PA X [a] ta) (hd:PK X [⟨some "start",b,kpos⟩] td) (hn:x≠"__name__":=by decide) (hdb:(x == ("__debug__":Str))=false:=by decide)
  (hall:(backToKw pos (keywordEach [⟨some "start",b,kpos⟩] X.env)).all (·.1.isSome)=true:=by rfl) (hks:(backToKw pos (keywordEach [⟨some "start",b,kpos⟩] X.env)).filterMap (·.1)=[("start":Str)]:=by rfl)
  (he:starEach [a] X.env=(false,eval a X.env)::starEach [] X.env:=by rfl) (hpl:((backTo pos (starEach [a] X.env)).any (·.1) || (backToKw pos (keywordEach [⟨some "start",b,kpos⟩] X.env)).any (·.1.isNone))=false:=by rfl) (hc0:X.calm=true:=by rfl):
  PI X (.Tuple elts k1 tpos) (.Call (.Name x p) [a] [⟨some "start",b,kpos⟩] pos) (iEnum X.K ta td):=by
 intro pins s σ H R I h
 refine wpAny_Call_Name_kw (iN I hg hm hv ?_ hn hdb)
 refine PySem.W.callWith_of (P:=fun g=>X.K.In g) hpl (fun _ _=>⟨.machine,.inr (.inl rfl),.now⟩) (PyProof.Rows.evalArgs_kw2 hall (thn (ha pins s σ H _ I h) fun us s1 ⟨vs,H1,I1,r,q⟩=>?_) he)
 refine thn (hd pos pins s1 σ H1 _ I1 q) fun ws s2 ⟨zs,H2,I2,rz,q2⟩=>⟨I2.kIn,?_⟩
 rw [hks]
 obtain⟨t,d,rfl,rfl,hf,⟨ys,hq⟩,q2⟩:=q2
 obtain⟨u,rfl,ru⟩:=r.one
 cases ru
 obtain⟨u',rfl,tk,rfl⟩:=rz.one
 obtain⟨its,rv,pt,hz⟩:=I2.tuple hq
 refine zV pt hf fun h' e1 e2 e3 e4=>?_
 refine wpAny_pyIter_enum e1 ?_
 have I3:Inv X pins σ H2 { s2 with heap:=h' }:=I2.kept (t':=s2.toks) e4
 refine⟨s2.heap.objs.size+1,[s2.heap.objs.size+1,s2.heap.objs.size],_,_,H2,rfl,I3,AcA (t:=t) (dI:=d) (Nat.succ_ne_self _) (I.ok.hd hc0),⟨⟨.none,by rw [show d+((0:Nat):Int)=d by omega];exact e1⟩,e2⟩,fun b hb=>?_,q2⟩
 rcases List.mem_cons.mp hb with rfl|hb
 ·exact I2.fpOk (Nat.le_succ _) (I2.hok.fresh (Nat.le_succ _))
 ·have e:b=s2.heap.objs.size:=by simpa using hb
  subst e
  exact I2.fpOk (Nat.le_refl _) (I2.hok.fresh (Nat.le_refl _))
end
end L2
namespace L2
open PySem PySem.Spec PyProof.Rows
section
variable {X:Cx}
end
section
variable {X:Cx} {NB:List Str} {n:Nat} {js:List Nat} {scope:Scope} {cl:List (Str × Addr)}
theorem oV {elt tg iter:Expr} {ifs:List Expr} {pos spos py:Pos} {y:Str} {ix:Nat} {wi:TI} {g:TG} {tc:TT} {te:TE} (hN:X.N.Nodup) (hiy:X.N[ix]?=some y) (hxy:Loc X.env.scope y) (hk:scope.kind=.function) (hcell:∀x ∈ scope.names,x.2≠.cell)
  (hnames:∀x ∈ scope.names,x.2=.local->scope.names.lookup x.1=some .local) (_:(0:Nat)=0) (T:fY X NB n js scope cl) (hi:PI X tg iter wi)
  (hg:∀C s H fp pn,PG (X.blkF NB scope cl C s H fp pn) tg g) (ht:∀C s H fp pn,PTs (X.blkF NB scope cl C s H fp pn) ifs tc) (he:∀C s H fp pn,PE (X.blkF NB scope cl C s H fp pn) elt te)
  (hsw:swapsWith (.ListComp elt [⟨tg,iter,ifs,0⟩] scope pos) (some (.Name y py)) spos.line X.env=pure true:=by rfl)
  (hf:X.fn y=true\/X.env.scope.names.lookup y=some .local:=by first|exact .inl rfl|exact .inr rfl|assumption)
  (hs:∀x,foldedSetIterable iter X.env x=pure x:=by intro _;rfl):PS X (.Assign [.Name y py] (.ListComp elt [⟨tg,iter,ifs,0⟩] scope pos) spos) (tAsg (tJ n js wi g tc te) (dQ ix)):=by
 intro pins s σ H D I h
 rw [exec_Assign_Name_used _ _ _ _ hsw]
 refine wpAny_bind (wpAny_standAt (wpAny_bind ?_))
 show wpAny _ X.A (do let _ <- comprehension (.ListComp elt [⟨tg,iter,ifs,0⟩] scope pos) scope X.env _ (newList []) false (eval iter X.env) (some (assign (.Name y py) X.env))) _ _ s
 refine wpAny_bind (wpAny_mono (wpAny_comprehension_free (use:=some (assign (.Name y py) X.env)) (Q:=fun _ s'=>SP X pins D .next s') rfl hs T.clo hk hnames (thn (hi s σ H _ I h) fun v s1 h1=>thn h1 fun itv s2 h2=>?_)) (fun _ s' hq=>wpAny_pure (wpAny_pure hq)) fun _ _ e=>e)
 obtain⟨it,fp,tn,J,H2,rfl,I2,U,st2,f2,h2⟩:=h2
 have lt2:∀b ∈ fp,b<s2.heap.objs.size:=fun b hb=>by
  obtain⟨o,q,_⟩:=U.obj 0 _ st2 b hb
  exact Heap.lt_size q
 refine wpAny_newObj_type ?_
 have hz:H2 s2.heap.objs.size=none:=I2.hok.fresh (Nat.le_refl _)
 obtain⟨W,⟨m0,w0⟩,turn⟩:=h2 s2.heap.objs.size hz
 have I3:Inv X pins σ (upd H2 s2.heap.objs.size (.lst [])) { s2 with heap:=s2.heap.push { cls:=.type "list",dict:=none,data:=.seq ([]:List Value).toArray } }:=
  I2.laid (t':=s2.toks) (fun b o q=>Heap.get?_push_of_some _ q) (Nat.le_refl _) ⟨Nat.zero_le _,[],0,.nil,Heap.get?_push_size _ rfl⟩
 generalize hs3:({ s2 with heap:=s2.heap.push { cls:=.type "list",dict:=none,data:=.seq ([]:List Value).toArray } }:Shared)=s3 at I3 ⊢
 have ups3:∀b o,s2.heap.get? b=some o->s3.heap.get? b=some o:=fun b o q=>by rw [<- hs3];exact Heap.get?_push_of_some _ q
 have f3:∀b ∈ fp,iV X pins (upd H2 s2.heap.objs.size (.lst [])) b:=fun b hb=>⟨by rw [aG (Nat.ne_of_lt (lt2 b hb))];exact(f2 b hb).1,(f2 b hb).2⟩
 have lt3:∀b ∈ fp,b<s3.heap.objs.size:=fun b hb=>by
  obtain⟨o,q,_⟩:=U.obj 0 _ st2 b hb
  exact Heap.lt_size (ups3 b o q)
 refine wpAny_newFunctionEnv hcell (by intro y hy;simp at hy) (fun h4 hn4 hs4=>?_) hk
 have keep4:∀b o,s3.heap.get? b=some o->h4.get? b=some o:=fun b o q=>(hs4.2 b (Nat.ne_of_lt (Heap.lt_size q))).trans (Heap.get?_push_of_some _ q)
 have I4:=xJ (tk:=s3.toks+([]:List (Str × Value)).length) I3 hk T f3 lt3 hn4 keep4
 have st4:tn 0 h4:=U.keep _ _ _ st2 fun b hb o q=>keep4 b o (ups3 b o q)
 have fpY:∀{H':Hp},(∀b ∈ fp,H' b=none)->∀b ∈ fp,iV (X.blkF NB scope cl s3.heap.objs.size s3 (upd H2 s2.heap.objs.size (.lst [])) fp (X.pn++pins)) [] H' b:=fun hn b hb=>by
  obtain⟨g0,g1,g2,g3,g4,g5⟩:=f3 b hb
  exact⟨hn b hb,Nat.ne_of_lt (lt3 b hb),fun z=>(List.mem_cons.mp (I3.stkSub b z)).elim g1 g2,.inl hb,fun x c q=>g4 x c (T.sub x c q),fun p hp=>g5 p (by simpa using hp)⟩
 have loop:∀s5:Shared,s5={ s3 with heap:=h4,toks:=s3.toks+([]:List (Str × Value)).length }->codeAny (model X.prog X.w) X.A (.compLoop (.ListComp elt [⟨tg,iter,ifs,0⟩] scope pos) 0 (.ref it) (.ref s2.heap.objs.size) (compEnvC scope cl s3.heap.objs.size X.env))
   (compPost (model X.prog X.w) X.A X.xe (some (assign (.Name y py) X.env)) (fun _ s'=>SP X pins D .next s') (.ref s2.heap.objs.size) s3.heap.objs.size) s5:=by
  rintro s5 rfl
  refine codeAny_loop rfl (fun k s'=>∃i ys H',Inv (X.blkF NB scope cl s3.heap.objs.size s3 (upd H2 s2.heap.objs.size (.lst [])) fp (X.pn++pins)) [] (gK n js σ) H' s'/\tn i s'.heap/\(∀b ∈ fp,H' b=none)/\W i k ys H')
   (fun k s6 hI=>?_) m0 ⟨0,[],_,I4,st4,fun b hb=>(f3 b hb).1,w0⟩
  obtain⟨i,ys,H6,I6,st6,fr6,w6⟩:=hI
  show wpAny _ _ ((compTurn (.ListComp elt [⟨tg,iter,ifs,0⟩] scope pos) 0 (.ref it) (.ref s2.heap.objs.size) (compEnvC scope cl s3.heap.objs.size X.env)).onRaise (fun x=>do noteFrame x (compEnvC scope cl s3.heap.objs.size X.env);theTreesLotGoes x)) _ _ s6
  refine wpAny_noted ?_
  rw [compTurn_list]
  refine wpAny_bind (wpAny_standAt (wpAny_bind ?_))
  obtain⟨hacc,alt⟩:=turn i k ys H6 w6
  rcases alt with ⟨stop,q⟩|⟨go,step⟩
  ·refine thn (U.done (X.blkF NB scope cl s3.heap.objs.size s3 (upd H2 s2.heap.objs.size (.lst [])) fp (X.pn++pins)) rfl rfl rfl rfl i [] s6 _ H6 _ I6 (fpY fr6) st6 stop) fun r s7 ⟨hr,I7⟩=>?_
   subst hr
   obtain⟨m,hm,_⟩:=I7.loc
   have I7X:Inv X pins σ H6 s7:=sY (h2:=s7.heap) I3 f3 lt3 I7 ⟨rfl,fun _ _=>rfl⟩
   have H6C:H6 s3.heap.objs.size=none:=I7.free
   have fpC:=I3.fpOk (H':=H6) (Nat.le_refl _) H6C
   refine wpAny_pure ?_
   show wpAny _ _ (assign (.Name y py) X.env (.ref s2.heap.objs.size)) _ _ _
   refine wpAny_assign_Name (sH I7X hN hiy hxy (v:=.ref s2.heap.objs.size) rfl (fun s8 I8 hsame=>?_) hf)
   obtain⟨a,hsa,ha⟩:=hsame
   have neC:s3.heap.objs.size≠a:=by
    rcases ha with rfl|ha
    ·exact fpC.2.1
    ·exact fun z=>fpC.2.2.2.2.1 _ _ ha z.symm
   refine⟨m,hm.sameBut hsa neC,fun h9 hsb=>⟨_,H6,?_,q⟩⟩
   refine I8.call' (s':={ s8 with heap:=h9 }) (ch:=[s3.heap.objs.size]) rfl ⟨fun b o q n hb he=>(hsb.2 b (fun z=>he (by simp [z]))).trans q,fun b o q n hb he=>⟨o.slots,(hsb.2 b (fun z=>he (by simp [z]))).trans q⟩,fun _ _ _ n _=>n,fun b o q he=>⟨o,(hsb.2 b (fun z=>he (by simp [z]))).trans q⟩,fun _ _ q=>q,fun _ _ _ q=>q,fun _ ps q=>⟨#[],by rw [q];simp⟩⟩ (fun b o q=>?_) I8.bare fun b hb=>?_
   ·refine(I8.hok b o q).stay (fun c w' hc r=>(hsb.2 c ?_).trans r) (fun _ r=>r) fun _ _ r=>r
    rintro rfl
    rcases hc with rfl|hc
    ·rw [H6C] at q;cases q
    ·rw [H6C] at hc;cases hc
   ·have e:b=s3.heap.objs.size:=by simpa using hb
    subst e
    exact⟨fpC.2.2.2.1,fpC.2.1,fpC.2.2.2.2.1,fpC.2.2.2.2.2⟩
  ·refine thn (U.item (X.blkF NB scope cl s3.heap.objs.size s3 (upd H2 s2.heap.objs.size (.lst [])) fp (X.pn++pins)) rfl rfl rfl rfl i [] s6 _ H6 _ I6 (fpY fr6) st6 go) fun r s7 ⟨u,hr,h7⟩=>?_
   subst hr
   refine wpAny_bind (thn h7 fun _ s8 ⟨x,H8,I8,r8,y8,st8,fr8⟩=>?_)
   have I8':=I8.pinned (fpY fr8) (U.obj _ _ st8)
   have gp:∀{σ9:St} {H9:Hp} {s9:Shared},Inv (X.blkF NB scope cl s3.heap.objs.size s3 (upd H2 s2.heap.objs.size (.lst [])) fp (X.pn++pins)) ([]++eV fp s8.heap) σ9 H9 s9->tn (i+1) s9.heap/\∀b ∈ fp,H9 b=none:=fun I9=>
    ⟨U.keep _ _ _ st8 fun b hb o e=>(I9.pin (b,o) (List.mem_append_right _ (List.mem_append_right _ (dZ hb e)))).1,fun b hb=>by
     obtain⟨o,e,d⟩:=U.obj _ _ st8 b hb
     exact(I9.pin (b,o) (List.mem_append_right _ (List.mem_append_right _ (dZ hb e)))).2.1⟩
   have wk:∀{σ9:St} {H9:Hp} {s9:Shared},σ9.drop n=(gK n js σ).drop n->Inv (X.blkF NB scope cl s3.heap.objs.size s3 (upd H2 s2.heap.objs.size (.lst [])) fp (X.pn++pins)) ([]++eV fp s8.heap) σ9 H9 s9->Inv (X.blkF NB scope cl s3.heap.objs.size s3 (upd H2 s2.heap.objs.size (.lst [])) fp (X.pn++pins)) [] (gK n js σ) H9 s9:=fun {σ9 H9 s9} hd I9=>
    I9.unpinned.weak (by rw [nZ T,I9.len]) fun k v z=>by
     obtain⟨k',j,rfl,_,_⟩:=rJ z
     have e:=congrArg (fun l=>l[k']?) hd
     simp only [List.getElem?_drop] at e
     rw [e]
     exact z
   refine wpAny_bind (wpAny_mono (hg _ _ _ _ _ s8 _ H8 x u _ I8' r8 (step x H8 y8)) (fun _ s9 hq=>?_) fun _ _ z=>z.elim)
   obtain⟨σ9,H9,I9,hd9,q9⟩:=hq
   refine wpAny_bind (wpAny_mono (ht _ _ _ _ _ s9 σ9 H9 _ I9 q9) (fun ok s10 hq=>?_) fun _ _ z=>z.elim)
   obtain⟨H10,I10,q10⟩:=hq
   cases ok with
   | false=>
    rw [if_neg (by simp)] at q10
    obtain⟨m',hm',w10⟩:=q10
    exact wpAny_pure ⟨rfl,m',hm',i+1,ys,H10,wk hd9 I10,(gp I10).1,(gp I10).2,w10⟩
   | true=>
    rw [if_pos rfl] at q10
    refine wpAny_bind (wpAny_bind (wpAny_mono (he _ _ _ _ _ s10 σ9 H10 _ I10 q10) (fun y s11 hq=>?_) fun _ _ z=>z.elim))
    obtain⟨yv,H11,I11,ry,ha11,hl11,m',hm',w11⟩:=hq
    have mt:=eL (X:=X.blkF NB scope cl s3.heap.objs.size s3 (upd H2 s2.heap.objs.size (.lst [])) fp (X.pn++pins)) ([]++eV fp s8.heap) s11 σ9 H11 (.ref s2.heap.objs.size) [yv] (.ref s2.heap.objs.size) [y] (fun _ H'=>W (i+1) m' (ys++[yv]) H') I11 rfl (.cons ry .nil) ⟨_,ys,yv,rfl,rfl,ha11,hl11,w11⟩
    refine wpAny_bind (wpAny_mono mt (fun _ s12 hq=>?_) fun _ _ z=>z.elim)
    obtain⟨v12,H12,I12,_,w12⟩:=hq
    exact wpAny_pure (wpAny_pure ⟨rfl,m',hm',i+1,_,H12,wk hd9 I12,(gp I12).1,(gp I12).2,w12⟩)
 exact codeAny_compStart_list (loop _ rfl) (U.self _ 0 _ _ _ st4 (loop _ rfl))
end
end L2
namespace L2
open PySem PySem.Spec PyProof.Rows PySem.W
theorem jY {α β:Type} {F:α->β->Prop}:∀{xs:List α} {ys:List β},xs.length=ys.length->(∀(j:Nat) x y,xs[j]?=some x->ys[j]?=some y->F x y)->Paired F xs ys
 | [],[],_,_=>.nil
 | [],_::_,h,_=>by simp at h
 | _::_,[],h,_=>by simp at h
 | a::xs,b::ys,h,f=>.cons (f 0 a b rfl rfl) (jY (by simpa using h) fun j x y e1 e2=>f (j+1) x y (by simpa using e1) (by simpa using e2))
section
variable {X:Cx}
theorem vY:∀{cs:List Addr} {us:List Value},cE (cs.map V.ref) us->us=cs.map Value.ref
 | [],_,.nil=>rfl
 | c::cs,_,.cons r t=>by
  cases r
  rw [vY t]
  rfl
end
end L2
namespace L2
open PySem PySem.Spec PyProof.Rows PySem.W Builtin
section
variable {K:Frag} {x C:Addr} {prog:Program} {w:World} {A:Around} {E:Value->Shared->Prop} {s:Shared}
end
section
variable {X:Cx}
end
end L2
namespace Lm
abbrev Ps:=List (Int × Int)
def mem (ps:Ps) (x:Int):Prop:=∃p ∈ ps,p.1<=x/\x<p.2
theorem iM {x:Int}:mem [] x↔False:=by simp [mem]
theorem mem_cons {p:Int × Int} {t:Ps} {x:Int}:mem (p::t) x↔(p.1<=x/\x<p.2)\/mem t x:=by simp [mem]
theorem AbC {s t:Ps} {x:Int}:mem (s++t) x↔mem s x\/mem t x:=by
 induction s with
 | nil=>simp [iM]
 | cons p s ih=>rw [List.cons_append,mem_cons,mem_cons,ih,or_assoc]
def Wk:Ps->Prop
 | []=>True
 | p::t=>p.1<p.2/\(∀q ∈ t,p.2<=q.1)/\Wk t
def Sh:Ps->Prop
 | []=>True
 | p::t=>p.1<p.2/\(∀q ∈ t,p.2<q.1)/\Sh t
theorem Sh.wk:∀{t:Ps},Sh t->Wk t
 | [],_=>trivial
 | _::_,⟨h1,h2,h3⟩=>⟨h1,fun q hq=>Int.le_of_lt (h2 q hq),Sh.wk h3⟩
theorem Sh.lt:∀{t:Ps},Sh t->∀q ∈ t,q.1<q.2
 | _::_,⟨h1,h2,h3⟩,q,hq=>by
  rcases List.mem_cons.mp hq with rfl|hq
  ·exact h1
  ·exact Sh.lt h3 q hq
theorem Wk.lt:∀{t:Ps},Wk t->∀q ∈ t,q.1<q.2
 | _::_,⟨h1,h2,h3⟩,q,hq=>by
  rcases List.mem_cons.mp hq with rfl|hq
  ·exact h1
  ·exact Wk.lt h3 q hq
theorem uX {t:Ps} {b x:Int} (h:∀q ∈ t,b<=q.1) (hx:mem t x):b<=x:=by
 obtain⟨p,hp,z,_⟩:=hx
 have:=h p hp
 omega
theorem pU {p:Int × Int} {t:Ps} (h:Sh (p::t)) {x:Int} (hx:mem (p::t) x):p.1<=x:=by
 rcases mem_cons.mp hx with z|z
 ·exact z.1
 ·have:=uX (b:=p.2) (fun q hq=>Int.le_of_lt (h.2.1 q hq)) z
  have:=h.1
  omega
theorem AaI {p:Int × Int} {t:Ps} (h:Sh (p::t)) {x:Int}:mem t x↔mem (p::t) x/\p.2<=x:=by
 constructor
 ·intro z
  exact⟨mem_cons.mpr (.inr z),uX (fun q hq=>Int.le_of_lt (h.2.1 q hq)) z⟩
 ·rintro⟨z,w⟩
  rcases mem_cons.mp z with z|z
  ·omega
  ·exact z
theorem AeB {p:Int × Int} {t:Ps} (h:Sh (p::t)):¬ mem (p::t) p.2:=by
 intro z
 rcases mem_cons.mp z with z|z
 ·omega
 ·obtain⟨q,hq,z1,_⟩:=z
  have:=h.2.1 q hq
  omega
theorem sh_same:∀{s t:Ps},Sh s->Sh t->(∀x,mem s x↔mem t x)->s=t
 | [],[],_,_,_=>rfl
 | [],q::t,_,ht,e=>by
  have:=(e q.1).mpr (mem_cons.mpr (.inl ⟨Int.le_refl _,ht.1⟩))
  exact(iM.mp this).elim
 | p::s,[],hs,_,e=>by
  have:=(e p.1).mp (mem_cons.mpr (.inl ⟨Int.le_refl _,hs.1⟩))
  exact(iM.mp this).elim
 | p::s,q::t,hs,ht,e=>by
  have l1:q.1<=p.1:=pU ht ((e p.1).mp (mem_cons.mpr (.inl ⟨Int.le_refl _,hs.1⟩)))
  have l2:p.1<=q.1:=pU hs ((e q.1).mpr (mem_cons.mpr (.inl ⟨Int.le_refl _,ht.1⟩)))
  have h1:¬ p.2<q.2:=fun z=>AeB hs ((e p.2).mpr (mem_cons.mpr (.inl ⟨by have:=hs.1;omega,z⟩)))
  have h2:¬ q.2<p.2:=fun z=>AeB ht ((e q.2).mp (mem_cons.mpr (.inl ⟨by have:=ht.1;omega,z⟩)))
  have pq:p=q:=by
   apply Prod.ext
   ·omega
   ·omega
  subst pq
  have:s=t:=sh_same hs.2.2 ht.2.2 fun x=>by rw [AaI hs,AaI ht,e x]
  rw [this]
theorem yD:∀{s t:Ps},Sh s->Sh t->(∀p ∈ s,∀q ∈ t,p.2<q.1)->Sh (s++t)
 | [],_,_,ht,_=>ht
 | p::s,t,hs,ht,h=>by
  refine⟨hs.1,fun q hq=>?_,yD hs.2.2 ht fun a ha b hb=>h a (List.mem_cons_of_mem _ ha) b hb⟩
  rcases List.mem_append.mp hq with hq|hq
  ·exact hs.2.1 q hq
  ·exact h p (List.mem_cons_self ..) q hq
def mg:Int × Int->Ps->Ps
 | c,[]=>[c]
 | c,p::t=>if p.1<=c.2 then mg (c.1,if p.2 > c.2 then p.2 else c.2) t else c::mg p t
def merged:Ps->Ps
 | []=>[]
 | p::t=>mg p t
def Lo:Ps->Prop
 | []=>True
 | p::t=>p.1<p.2/\(∀q ∈ t,p.1<=q.1)/\Lo t
theorem Wk.lo:∀{t:Ps},Wk t->Lo t
 | [],_=>trivial
 | _::_,⟨h1,h2,h3⟩=>⟨h1,fun q hq=>by have:=h2 q hq;omega,Wk.lo h3⟩
theorem mg_ok:∀{t:Ps} {c:Int × Int},c.1<c.2->(∀q ∈ t,c.1<=q.1)->Lo t->Sh (mg c t)/\(∀p ∈ mg c t,c.1<=p.1)/\(∀x,mem (mg c t) x↔(c.1<=x/\x<c.2)\/mem t x)/\(mg c t).length<=t.length+1
 | [],c,h,_,_=>by
  refine⟨⟨h,by simp,trivial⟩,fun p hp=>?_,fun x=>?_,Nat.le_refl _⟩
  ·rw [List.mem_singleton.mp hp]
   exact Int.le_refl _
  ·show mem [c] x↔_
   rw [mem_cons]
 | p::t,c,h,hq,hl=>by
  have hp:=hq p (List.mem_cons_self ..)
  have hpp:=hl.1
  by_cases z:p.1<=c.2
  ·have e:mg c (p::t)=mg (c.1,if p.2 > c.2 then p.2 else c.2) t:=by
    show (if p.1<=c.2 then _ else _)=_
    rw [if_pos z]
   rw [e]
   have hm:c.1<(if p.2 > c.2 then p.2 else c.2):=by split <;> omega
   obtain⟨i1,i2,i3,i4⟩:=mg_ok (t:=t) (c:=(c.1,if p.2 > c.2 then p.2 else c.2)) hm (fun q hq'=>by have:=hl.2.1 q hq';show c.1<=q.1;omega) hl.2.2
   refine⟨i1,i2,fun x=>?_,by rw [List.length_cons];omega⟩
   rw [i3 x,mem_cons]
   show (c.1<=x/\x<(if p.2 > c.2 then p.2 else c.2))\/mem t x↔_
   by_cases m:mem t x
   ·simp [m]
   ·simp only [m,or_false]
    split <;> omega
  ·have e:mg c (p::t)=c::mg p t:=by
    show (if p.1<=c.2 then _ else _)=_
    rw [if_neg z]
   rw [e]
   obtain⟨i1,i2,i3,i4⟩:=mg_ok (t:=t) (c:=p) hpp hl.2.1 hl.2.2
   refine⟨⟨h,fun q hq'=>by have:=i2 q hq';omega,i1⟩,fun q hq'=>?_,fun x=>?_,by rw [List.length_cons,List.length_cons];omega⟩
   ·rcases List.mem_cons.mp hq' with rfl|hq'
    ·exact Int.le_refl _
    ·have:=i2 q hq'
     omega
   ·rw [mem_cons,mem_cons,i3 x]
theorem merged_ok:∀{t:Ps},Lo t->Sh (merged t)/\(∀x,mem (merged t) x↔mem t x)/\(merged t).length<=t.length
 | [],_=>⟨trivial,fun x=>Iff.rfl,Nat.le_refl _⟩
 | p::t,h=>by
  obtain⟨i1,i2,i3,i4⟩:=mg_ok h.1 h.2.1 h.2.2
  exact⟨i1,fun x=>by rw [show merged (p::t)=mg p t from rfl,i3 x,mem_cons],i4⟩
def cut (at_ high:Int):Ps->Ps
 | []=>if at_<high then [(at_,high)] else []
 | g::gs=>if g.1<high then(if at_<g.1 then [(at_,g.1)] else [])++cut g.2 high gs else if at_<high then [(at_,high)] else []
def skip (low:Int):Ps->Ps
 | []=>[]
 | g::gs=>if g.2<=low then skip low gs else g::gs
def wo:Ps->Ps->Ps
 | [],_=>[]
 | p::t,gs=>cut p.1 p.2 (skip p.1 gs)++wo t (skip p.1 gs)
theorem qP {a b:Int}:Sh (if a<b then [(a,b)] else [])/\(∀p ∈ (if a<b then [(a,b)] else []),a<=p.1/\p.2<=b)/\(∀x,mem (if a<b then [(a,b)] else []) x↔a<=x/\x<b)/\(if a<b then [(a,b)] else([]:Ps)).length<=1:=by
 by_cases h:a<b
 ·rw [if_pos h]
  refine⟨⟨h,by simp,trivial⟩,fun p hp=>?_,fun x=>?_,Nat.le_refl _⟩
  ·rw [List.mem_singleton.mp hp]
   exact⟨Int.le_refl _,Int.le_refl _⟩
  ·rw [mem_cons,iM,or_false]
 ·rw [if_neg h]
  refine⟨trivial,by simp,fun x=>?_,Nat.zero_le _⟩
  rw [iM]
  exact⟨False.elim,fun z=>by omega⟩
theorem AhG:∀{gs:Ps} {a b:Int},Sh gs->(∀g ∈ gs,a<g.2)->Sh (cut a b gs)/\(∀p ∈ cut a b gs,a<=p.1/\p.2<=b)/\(∀x,mem (cut a b gs) x↔(a<=x/\x<b)/\¬ mem gs x)/\(cut a b gs).length<=gs.length+1
 | [],a,b,_,_=>by
  obtain⟨i1,i2,i3,i4⟩:=qP (a:=a) (b:=b)
  exact⟨i1,i2,fun x=>by rw [show cut a b []=(if a<b then [(a,b)] else []) from rfl,i3 x,iM];simp,i4⟩
 | g::gs,a,b,hs,hg=>by
  have h1:=hs.1
  have h2:=hg g (List.mem_cons_self ..)
  by_cases z:g.1<b
  ·have e:cut a b (g::gs)=(if a<g.1 then [(a,g.1)] else [])++cut g.2 b gs:=by
    show (if g.1<b then _ else _)=_
    rw [if_pos z]
   rw [e]
   obtain⟨i1,i2,i3,i4⟩:=qP (a:=a) (b:=g.1)
   obtain⟨j1,j2,j3,j4⟩:=AhG (gs:=gs) (a:=g.2) (b:=b) hs.2.2 fun q hq=>by
    have:=hs.2.1 q hq
    have:=Sh.lt hs.2.2 q hq
    omega
   refine⟨yD i1 j1 fun p hp q hq=>?_,fun p hp=>?_,fun x=>?_,?_⟩
   ·have:=(i2 p hp).2
    have:=(j2 q hq).1
    omega
   ·rcases List.mem_append.mp hp with hp|hp
    ·have:=i2 p hp
     exact⟨this.1,by omega⟩
    ·have:=j2 p hp
     exact⟨by omega,this.2⟩
   ·rw [AbC,i3 x,j3 x,mem_cons]
    have ge:mem gs x->g.2<=x:=fun m=>uX (fun q hq=>Int.le_of_lt (hs.2.1 q hq)) m
    by_cases m:mem gs x
    ·have:=ge m
     simp only [m,not_true_eq_false,and_false,or_false,or_true,iff_false,false_and]
     omega
    ·simp only [m,not_false_eq_true,and_true,or_false]
     omega
   ·rw [List.length_append,List.length_cons]
    omega
  ·have e:cut a b (g::gs)=if a<b then [(a,b)] else []:=by
    show (if g.1<b then _ else _)=_
    rw [if_neg z]
   rw [e]
   obtain⟨i1,i2,i3,i4⟩:=qP (a:=a) (b:=b)
   refine⟨i1,i2,fun x=>?_,by rw [List.length_cons];omega⟩
   rw [i3 x]
   have ge:mem (g::gs) x->g.1<=x:=fun m=>pU hs m
   constructor
   ·intro h
    exact⟨h,fun m=>by have:=ge m;omega⟩
   ·exact fun h=>h.1
theorem uA:∀{gs:Ps} {a:Int},Sh gs->Sh (skip a gs)/\(∀g ∈ skip a gs,a<g.2)/\(∀x,a<=x->(mem (skip a gs) x↔mem gs x))/\(skip a gs).length<=gs.length
 | [],a,_=>⟨trivial,by simp [skip],fun x _=>Iff.rfl,Nat.le_refl _⟩
 | g::gs,a,hs=>by
  by_cases z:g.2<=a
  ·have e:skip a (g::gs)=skip a gs:=by
    show (if g.2<=a then _ else _)=_
    rw [if_pos z]
   rw [e]
   obtain⟨i1,i2,i3,i4⟩:=uA (gs:=gs) (a:=a) hs.2.2
   refine⟨i1,i2,fun x hx=>?_,by rw [List.length_cons];omega⟩
   rw [i3 x hx,mem_cons]
   constructor
   ·exact .inr
   ·rintro(h|h)
    ·omega
    ·exact h
  ·have e:skip a (g::gs)=g::gs:=by
    show (if g.2<=a then _ else _)=_
    rw [if_neg z]
   rw [e]
   refine⟨hs,fun q hq=>?_,fun x _=>Iff.rfl,Nat.le_refl _⟩
   rcases List.mem_cons.mp hq with rfl|hq
   ·omega
   ·have:=hs.2.1 q hq
    have:=Sh.lt hs.2.2 q hq
    omega
theorem wo_ok:∀{ks gs:Ps},Sh ks->Sh gs->Sh (wo ks gs)/\(∀p ∈ wo ks gs,∃k ∈ ks,k.1<=p.1)/\(∀x,mem (wo ks gs) x↔mem ks x/\¬ mem gs x)
 | [],gs,_,_=>⟨trivial,by simp [wo],fun x=>by rw [show wo [] gs=[] from rfl,iM];simp⟩
 | p::t,gs,hk,hg=>by
  obtain⟨s1,s2,s3,s4⟩:=uA (a:=p.1) hg
  obtain⟨i1,i2,i3,i4⟩:=AhG (b:=p.2) s1 s2
  obtain⟨j1,j2,j3⟩:=wo_ok (ks:=t) (gs:=skip p.1 gs) hk.2.2 s1
  have far:∀q ∈ wo t (skip p.1 gs),p.2<q.1:=fun q hq=>by
   obtain⟨k,hk',z⟩:=j2 q hq
   have:=hk.2.1 k hk'
   omega
  refine⟨yD i1 j1 fun a ha q hq=>?_,fun q hq=>?_,fun x=>?_⟩
  ·have:=(i2 a ha).2
   have:=far q hq
   omega
  ·rcases List.mem_append.mp hq with hq|hq
   ·exact⟨p,List.mem_cons_self ..,(i2 q hq).1⟩
   ·obtain⟨k,hk',z⟩:=j2 q hq
    exact⟨k,List.mem_cons_of_mem _ hk',z⟩
  ·show mem (cut p.1 p.2 (skip p.1 gs)++wo t (skip p.1 gs)) x↔_
   rw [AbC,i3 x,j3 x,mem_cons]
   have ge:mem t x->p.2<=x:=fun m=>uX (fun q hq=>Int.le_of_lt (hk.2.1 q hq)) m
   have h1:=hk.1
   by_cases hx:p.1<=x
   ·rw [s3 x hx]
    constructor
    ·rintro(⟨a,b⟩|⟨a,b⟩)
     ·exact⟨.inl a,b⟩
     ·exact⟨.inr a,b⟩
    ·rintro⟨a|a,b⟩
     ·exact .inl ⟨a,b⟩
     ·exact .inr ⟨a,b⟩
   ·constructor
    ·rintro(⟨a,b⟩|⟨a,b⟩)
     ·omega
     ·have:=ge a
      omega
    ·rintro⟨a|a,b⟩
     ·omega
     ·have:=ge a
      omega
theorem vQ (f:Int × Int->Bool) (a:Int):∀gs:Ps,(skip a gs).countP f<=gs.countP f
 | []=>Nat.le_refl _
 | g::gs=>by
  show (if g.2<=a then skip a gs else g::gs).countP f<=_
  split
  ·have:=vQ f a gs
   rw [List.countP_cons]
   omega
  ·exact Nat.le_refl _
theorem AbQ:∀{gs:Ps} {a b:Int},Sh gs->(∀g ∈ gs,a<g.2)->(cut a b gs).length<=1+gs.countP fun g=>decide (a<g.1/\g.1<b)
 | [],a,b,_,_=>by
  have:=(qP (a:=a) (b:=b)).2.2.2
  show (if a<b then [(a,b)] else([]:Ps)).length<=_
  omega
 | g::gs,a,b,hs,hg=>by
  have h1:=hs.1
  have h2:=hg g (List.mem_cons_self ..)
  rw [List.countP_cons]
  by_cases z:g.1<b
  ·have e:cut a b (g::gs)=(if a<g.1 then [(a,g.1)] else [])++cut g.2 b gs:=by
    show (if g.1<b then _ else _)=_
    rw [if_pos z]
   rw [e,List.length_append]
   have i:=AbQ (gs:=gs) (a:=g.2) (b:=b) hs.2.2 fun q hq=>by
    have:=hs.2.1 q hq
    have:=Sh.lt hs.2.2 q hq
    omega
   have m:(gs.countP fun q=>decide (g.2<q.1/\q.1<b))<=gs.countP fun q=>decide (a<q.1/\q.1<b):=List.countP_mono_left fun q hq hz=>by
    have:=of_decide_eq_true hz
    exact decide_eq_true ⟨by omega,this.2⟩
   by_cases y:a<g.1
   ·rw [if_pos y,decide_eq_true (show a<g.1/\g.1<b from⟨y,z⟩)]
    show 1+_<=1+(_+1)
    omega
   ·rw [if_neg y]
    show 0+_<=_
    omega
  ·have e:cut a b (g::gs)=if a<b then [(a,b)] else []:=by
    show (if g.1<b then _ else _)=_
    rw [if_neg z]
   rw [e]
   have:=(qP (a:=a) (b:=b)).2.2.2
   omega
theorem AbS {α:Type} (f g h:α->Bool) (d:∀x,f x=true->g x=true->False) (e:∀x,f x=true\/g x=true->h x=true):∀l:List α,l.countP f+l.countP g<=l.countP h
 | []=>Nat.le_refl _
 | x::l=>by
  have:=AbS f g h d e l
  rw [List.countP_cons,List.countP_cons,List.countP_cons]
  by_cases a:f x=true
  ·by_cases b:g x=true
   ·exact(d x a b).elim
   ·rw [if_pos a,if_neg b,if_pos (e x (.inl a))]
    omega
  ·by_cases b:g x=true
   ·rw [if_neg a,if_pos b,if_pos (e x (.inr b))]
    omega
   ·rw [if_neg a,if_neg b]
    omega
theorem AdS:∀{ks gs:Ps} {L:Int},Sh ks->Sh gs->(∀k ∈ ks,L<=k.1)->(wo ks gs).length<=ks.length+gs.countP fun g=>decide (L<g.1)
 | [],gs,L,_,_,_=>Nat.zero_le _
 | p::t,gs,L,hk,hg,hL=>by
  obtain⟨s1,s2,s3,s4⟩:=uA (a:=p.1) hg
  have i:=AbQ (b:=p.2) s1 s2
  have j:=AdS (ks:=t) (gs:=skip p.1 gs) (L:=p.2) hk.2.2 s1 fun k hk'=>Int.le_of_lt (hk.2.1 k hk')
  have hp:=hL p (List.mem_cons_self ..)
  have c:=AbS (fun g:Int × Int=>decide (p.1<g.1/\g.1<p.2)) (fun g=>decide (p.2<g.1)) (fun g=>decide (L<g.1)) (fun x a b=>by
    have:=of_decide_eq_true a
    have:=of_decide_eq_true b
    omega) (fun x z=>by
    refine decide_eq_true ?_
    have h1:=hk.1
    rcases z with z|z
    ·have:=of_decide_eq_true z
     omega
    ·have:=of_decide_eq_true z
     omega) (skip p.1 gs)
  have d:=vQ (fun g=>decide (L<g.1)) p.1 gs
  show (cut p.1 p.2 (skip p.1 gs)++wo t (skip p.1 gs)).length<=_
  rw [List.length_append,List.length_cons]
  omega
theorem wo_len {ks gs:Ps} (hk:Sh ks) (hg:Sh gs):(wo ks gs).length<=ks.length+gs.length:=by
 match ks,hk with
 | [],_=>exact Nat.zero_le _
 | p::t,hk=>
  have:=AdS (L:=p.1) hk hg fun k hk'=>by
   rcases List.mem_cons.mp hk' with rfl|hk'
   ·exact Int.le_refl _
   ·have:=hk.2.1 k hk'
    have:=hk.1
    omega
  have:=List.countP_le_length (p:=fun g:Int × Int=>decide (p.1<g.1)) (l:=gs)
  omega
open Classical in
noncomputable def ind (P:Int->Prop) (x:Int):Int:=if P x then 1 else 0
noncomputable def cnt (P:Int->Prop) (lo:Int):Nat->Int
 | 0=>0
 | n+1=>cnt P lo n+ind P (lo+n)
end Lm
namespace Ls
open PySem L2 PySem.W
def top (i:Nat):Stmt:=PySem.Challenge.pw_lentwork_k32_what_is_no_line.main.body.getD i (.Pass ⟨0,0,0,0⟩)
abbrev qA:Stmt:=top 26
abbrev lN:Stmt:=top 27
abbrev sWork:Stmt:=top 28
abbrev yW:Stmt:=top 29
abbrev uI:Stmt:=top 30
abbrev yI:Stmt:=top 31
abbrev pZ:Stmt:=top 32
abbrev qB:Stmt:=top 34
abbrev sMake:Stmt:=top 50
abbrev sWord:Stmt:=top 52
abbrev qC:Stmt:=top 57
abbrev yL:Stmt:=cI (top 35) 0
abbrev sSLay:Stmt:=cI (top 35) 1
abbrev sSRes:Stmt:=cI (top 35) 2
abbrev sSAll:Stmt:=cI (top 35) 3
abbrev yJ:Stmt:=cI (top 35) 4
abbrev uF:Stmt:=cI (top 35) 5
abbrev yK:Stmt:=cI (top 35) 6
abbrev mX:Stmt:=cI (top 35) 7
abbrev yP:Stmt:=cI (top 24) 0
abbrev yM:Stmt:=cI (top 24) 1
abbrev yR:Stmt:=cI (top 24) 2
abbrev yN:Stmt:=cI (top 24) 3
abbrev yQ:Stmt:=cI (top 24) 4
abbrev yO:Stmt:=cI (top 24) 5
abbrev sPHas:Stmt:=cI (top 24) 7
abbrev uG:Stmt:=cI (top 24) 8
abbrev mY:Stmt:=cI (top 41) 0
abbrev jA:Stmt:=cI (top 41) 1
abbrev yT:Stmt:=cI (top 41) 2
abbrev yS:Stmt:=cI (top 41) 3
abbrev vX:Stmt:=cI (top 41) 5
abbrev iZ:Stmt:=cI (top 41) 7
abbrev sKNow:Stmt:=cI (top 41) 8
abbrev sKAll:Stmt:=cI (top 41) 10
abbrev yU:Stmt:=cI (top 41) 11
abbrev qF:Stmt:=cI (top 41) 12
abbrev qE:Stmt:=cI (top 41) 13
abbrev yV:Stmt:=cI (top 41) 14
abbrev qD:Stmt:=cI (top 41) 15
abbrev lO:Stmt:=cI (top 41) 16
abbrev uL:Stmt:=cI (top 41) 18
abbrev AaO:Stmt:=cI (top 41) 20
abbrev lP:Stmt:=cI (top 41) 21
abbrev uM:Stmt:=top 37
abbrev uE:Stmt:=top 38
abbrev iH:Stmt:=top 39
abbrev jM:Stmt:=top 40
abbrev kQ:Stmt:=top 44
abbrev oU:Stmt:=top 45
abbrev jO:Stmt:=top 46
abbrev sWell:Stmt:=top 48
abbrev sDraw:Stmt:=top 49
abbrev uJ:Stmt:=top 51
abbrev jN:Stmt:=top 53
abbrev uH:Stmt:=top 54
abbrev sSeen:Stmt:=top 55
abbrev uK:Stmt:=top 56
inductive Kn (H:Hp):V->Prop where
 | non:Kn H .non
 | bl (b:Bool):Kn H (.bl b)
 | int (i:Int):Kn H (.int i)
 | str (x:Str):Kn H (.str x)
 | lst {a:Addr} {xs:List V} (e:H a=some (.lst xs)):Kn H (.ref a)
 | dK {a:Addr} {kvs:List (Key × V)} (e:H a=some (.dK kvs)):Kn H (.ref a)
inductive Knd (H:Hp):V->Prop where
 | kn {x:V} (h:Kn H x):Knd H x
 | tup {a:Addr} {xs:List V} (e:H a=some (.tup xs)):Knd H (.ref a)
def kF:V->Bool
 | .int _=>true
 | _=>false
theorem Kn.same {H H':Hp} {x:V} (e:aR H H') (h:Kn H x):Kn H' x:=by
 cases h with
 | non=>exact .non
 | bl b=>exact .bl b
 | int i=>exact .int i
 | str x=>exact .str x
 | lst q=>exact .lst (e _ _ q)
 | dK q=>exact .dK (e _ _ q)
theorem Knd.same {H H':Hp} {x:V} (e:aR H H') (h:Knd H x):Knd H' x:=by
 cases h with
 | kn h=>exact .kn (h.same e)
 | tup q=>exact .tup (e _ _ q)
theorem ans_int {K:Frag} {H:Hp} {x:V} (h:Knd H x):∃t,iP K H x t/\kitOne K t (.type "int")=some (match x with | .int _=>true | .bl _=>true|_=>false):=by
 cases h with
 | kn h=>
  cases h with
  | non=>exact⟨_,.non,by kernel_rfl⟩
  | bl b=>exact⟨_,.bl b,by kernel_rfl⟩
  | int i=>exact⟨_,.int i,by rfl⟩
  | str x=>exact⟨_,.str x,by kernel_rfl⟩
  | lst q=>exact⟨_,.lst q,by kernel_rfl⟩
  | dK q=>exact⟨_,.dK q,by kernel_rfl⟩
 | tup q=>exact⟨_,.tup q,by kernel_rfl⟩
theorem AhR {K:Frag} {H:Hp} {x:V} (h:Knd H x):∃t,iP K H x t/\kitOne K t (.type "bool")=some (match x with | .bl _=>true|_=>false):=by
 cases h with
 | kn h=>
  cases h with
  | non=>exact⟨_,.non,by kernel_rfl⟩
  | bl b=>exact⟨_,.bl b,by rfl⟩
  | int i=>exact⟨_,.int i,by kernel_rfl⟩
  | str x=>exact⟨_,.str x,by kernel_rfl⟩
  | lst q=>exact⟨_,.lst q,by kernel_rfl⟩
  | dK q=>exact⟨_,.dK q,by kernel_rfl⟩
 | tup q=>exact⟨_,.tup q,by kernel_rfl⟩
theorem rM {K:Frag} {H:Hp} {x:V} (h:Kn H x):∃t,iP K H x t/\kitOne K t (.type "tuple")=some false:=by
 cases h with
 | non=>exact⟨_,.non,by kernel_rfl⟩
 | bl b=>exact⟨_,.bl b,by kernel_rfl⟩
 | int i=>exact⟨_,.int i,by kernel_rfl⟩
 | str x=>exact⟨_,.str x,by kernel_rfl⟩
 | lst q=>exact⟨_,.lst q,by kernel_rfl⟩
 | dK q=>exact⟨_,.dK q,by kernel_rfl⟩
theorem iD {K:Frag} {H:Hp} {a:Addr} {xs:List V} (q:H a=some (.tup xs)):∃t,iP K H (.ref a) t/\kitOne K t (.type "tuple")=some true:=⟨_,.tup q,by rfl⟩
structure Gb (mg:Str->Option Value):Prop where
 isi:mg "isinstance"=none
 int:mg "int"=none
 bool:mg "bool"=none
 tuple:mg "tuple"=none
 len:mg "len"=none
 range:mg "range"=none
 list:mg "list"=none
 max:mg "max"=none
 sum:mg "sum"=none
 sorted:mg "sorted"=none
 any:mg "any"=none
 all:mg "all"=none
 enum:mg "enumerate"=none
 min:mg "min"=none
def dS:Sp:=fun vs H Q _=>∃x,vs=[x]/\Knd H x/\Q (.bl (kF x)) H
inductive xM (H:Hp):V->Option (Int × Int)->Prop where
 | no {x:V} (h:Kn H x):xM H x none
 | len {a:Addr} {xs:List V} (e:H a=some (.tup xs)) (h:xs.length≠2):xM H (.ref a) none
 | one {a:Addr} {x y:V} (e:H a=some (.tup [x,y])) (hx:Knd H x) (hy:Knd H y) (h:kF x=false\/kF y=false):xM H (.ref a) none
 | turned {a:Addr} {l h:Int} (e:H a=some (.tup [.int l,.int h])) (n:h<=l):xM H (.ref a) none
 | yes {a:Addr} {l h:Int} (e:H a=some (.tup [.int l,.int h])) (n:l<h):xM H (.ref a) (some (l,h))
def sK:Sp:=fun vs H Q _=>∃x o,vs=[x]/\xM H x o/\Q (.bl o.isSome) H
section
variable {P:Program} {w:World} {K:PySem.W.Frag} {mg:Str->Option Value} {base:Heap}
theorem cH:bootBuiltins "isinstance"=some (.builtin "isinstance"):=by decide +kernel
theorem vF:bootBuiltins "int"=some (.type "int"):=by decide +kernel
theorem boot_b:bootBuiltins "bool"=some (.type "bool"):=by decide +kernel
theorem gZ:bootBuiltins "tuple"=some (.type "tuple"):=by decide +kernel
theorem boot_l:bootBuiltins "list"=some (.type "list"):=by decide +kernel
theorem boot_mx:bootBuiltins "max"=some (.builtin "max"):=by decide +kernel
theorem AhN:bootBuiltins "any"=some (.builtin "any"):=by decide +kernel
theorem xI:bootBuiltins "all"=some (.builtin "all"):=by decide +kernel
theorem sX:bootBuiltins "enumerate"=some (.type "enumerate"):=by decide +kernel
theorem xH:bootBuiltins "sorted"=some (.builtin "sorted"):=by decide +kernel
theorem scWhole:aP ["thing"] ["thing"] (aH qA):=⟨rfl,rfl,rfl,by decide +kernel,rfl,by decide +kernel,by decide +kernel⟩
theorem wK {f:Addr} {fd:FuncData} (F:Fun K "is_whole" "is_whole" qA f fd) (G:Gb mg):aJ P w K mg base CX0 1 f fd ["thing"] dS:=by
 refine F.ok scWhole (fun vs H Q E h=>?_) (fun cdv A outer s H vs Q E hr h=>?_)
 ·obtain⟨x,rfl,_⟩:=h
  rfl
 ·obtain⟨x,rfl,hx,q⟩:=h
  refine⟨_,aI (aY (iK (aS aW (by rfl) G.isi cH (aA (pv 0) (aA (gC (v:=.ty "int") (by rfl) G.int vF rfl) aB)))
   (iJ (uR (aS aW (by rfl) G.isi cH (aA (pv 0) (aA (gC (v:=.ty "bool") (by rfl) G.bool boot_b rfl) aB))))))),?_⟩
  obtain⟨t,ty,e⟩:=ans_int (K:=K) hx
  obtain⟨t2,ty2,e2⟩:=AhR (K:=K) hx
  refine⟨_,rfl,_,_,_,_,rfl,.ty "int",.inl ⟨t,ty,e⟩,_,rfl,?_⟩
  refine eF (fun hc=>?_) (fun hc=>?_)
  ·refine⟨_,rfl,_,_,_,_,rfl,.ty "bool",.inl ⟨t2,ty2,e2⟩,_,rfl,?_⟩
   cases x <;> first|exact q|cases hc
  ·cases x <;> first|exact q|exact absurd rfl hc
theorem AcE:aP ["thing"] ["thing"] (aH lN):=⟨rfl,rfl,rfl,by decide +kernel,rfl,by decide +kernel,by decide +kernel⟩
theorem zD {f fW:Addr} {fd fdW:FuncData} (F:Fun K "is_stretch" "is_stretch" lN f fd) (G:Gb mg) (FW:Fun K "is_whole" "is_whole" qA fW fdW) (bW:aO K fdW ["thing"] []) (mW:mg "is_whole"=some (.ref fW)):aJ P w K mg base CX0 2 f fd ["thing"] sK:=by
 have GW:aJ P w K mg base CX0 1 fW fdW ["thing"] dS:=wK FW G
 refine F.ok AcE (fun vs H Q E h=>?_) (fun cdv A outer s H vs Q E hr h=>?_)
 ·obtain⟨x,o,rfl,_⟩:=h
  rfl
 ·obtain⟨x,o,rfl,hx,q⟩:=h
  refine⟨_,aC (cJ (PW.pt (gH (dA (cW (aS aW (by rfl) G.isi cH (aA (pv 0) (aA (gC (v:=.ty "tuple") (by rfl) G.tuple gZ rfl) aB)))))
    (eT (cB AaY (aS cR (by rfl) G.len PySem.boot_len (aA (pv 0) aB)) aE (bX _))))) (aI (aY lR)) bV)
   (aI (aY (iK (aL GW hr rfl mW FW.kp bW .nil aN (aA (bJ bQ (pv 0) aE (fun _ _=>rfl)) aB))
    (iK (aL GW hr rfl mW FW.kp bW .nil aN (aA (bJ bQ (pv 0) aE (fun _ _=>rfl)) aB))
     (iJ (eJ fX (bJ bQ (pv 0) aE (fun _ _=>rfl)) (bJ bQ (pv 0) aE (fun _ _=>rfl)) (bX _))))))),?_⟩
  have tupA:∀{a:Addr} {xs:List V},x=.ref a->H a=some (.tup xs)->(xs.length≠2->Q (.bl false) H)->(∀u v,xs=[u,v]->Knd H u/\Knd H v/\(kF u=false->Q (.bl false) H)/\(kF v=false->Q (.bl false) H)/\∀l h,u=.int l->v=.int h->Q (.bl (decide (l<h))) H) ->
   (tSeq (tIfS (tOr (tNot (tB (tCB (gG K) (hG (iE 0) (hG (tC (.ty "tuple")) oH))))) (tTest (tOp rNe (tCB (fun xs H Q=>∃p ys,xs=[.ref p]/\(SqL K H p ys\/SqT K H p ys)/\Q (.int ys.length) H) (hG (iE 0) oH)) (tC (.int 2))))) (tRet (tC (.bl false))) AaF)
    (tRet (tAndV (vM dS [] E0 (hG (tOp (wA K) (iE 0) (tC (.int 0))) oH)) (tAndV (vM dS [] E0 (hG (tOp (wA K) (iE 0) (tC (.int 1))) oH)) (tOp (rI0 fun i j=>.bl (decide (i<j))) (tOp (wA K) (iE 0) (tC (.int 0))) (tOp (wA K) (iE 0) (tC (.int 1))))))))
    { nx:=fun _ H'=>Q .non H',rt:=Q } (dI ["thing"] [x]) H:=fun {a xs} ex ea q1 q2=>by
   subst ex
   obtain⟨t,ty,e⟩:=iD (K:=K) ea
   refine⟨_,rfl,_,_,_,_,rfl,.ty "tuple",.inl ⟨t,ty,e⟩,_,rfl,?_⟩
   refine dH ?_
   refine⟨_,rfl,a,xs,rfl,.inr (SqT.of ea),rfl,_,rfl,?_⟩
   refine eF (fun hc=>?_) (fun hc=>?_)
   ·refine q1 fun z=>?_
    rw [z] at hc
    cases hc
   ·have z:xs.length=2:=by
     by_cases z:xs.length=2
     ·exact z
     ·refine absurd ?_ hc
      have:decide (V.int (xs.length:Int)=V.int 2)=false:=decide_eq_false fun w=>z (by injection w with w;omega)
      rw [this]
      rfl
    obtain⟨u,v,rfl⟩:∃u v,xs=[u,v]:=by
     match xs,z with
     | [u,v],_=>exact⟨u,v,rfl⟩
    obtain⟨ku,kv,qu,qv,ql⟩:=q2 u v rfl
    refine⟨_,rfl,a,_,_,_,rfl,rfl,SqT.of ea,aM (j:=0) rfl,_,rfl,ku,_,rfl,?_⟩
    refine eF (fun hu=>?_) (fun hu=>qu (by simpa using hu))
    refine⟨_,rfl,a,_,_,_,rfl,rfl,SqT.of ea,aM (j:=1) rfl,_,rfl,kv,_,rfl,?_⟩
    refine eF (fun hv=>?_) (fun hv=>qv (by simpa using hv))
    obtain⟨l,rfl⟩:∃l,u=.int l:=by
     cases u <;> first|exact⟨_,rfl⟩|cases hu
    obtain⟨h,rfl⟩:∃h,v=.int h:=by
     cases v <;> first|exact⟨_,rfl⟩|cases hv
    exact⟨_,rfl,a,_,_,_,rfl,rfl,SqT.of ea,aM (j:=0) rfl,_,rfl,a,_,_,_,rfl,rfl,SqT.of ea,aM (j:=1) rfl,_,_,rfl,rfl,ql l h rfl rfl⟩
  cases hx with
  | no h=>
   obtain⟨t,ty,e⟩:=rM (K:=K) h
   refine⟨_,rfl,_,_,_,_,rfl,.ty "tuple",.inl ⟨t,ty,e⟩,_,rfl,?_⟩
   refine eP ?_
   exact eP q
  | len ea hl=>exact tupA rfl ea (fun _=>q) fun u v z=>absurd (by rw [z];rfl) hl
  | one ea hu hv hw=>
   refine tupA rfl ea (fun z=>absurd rfl z) fun u v z=>?_
   cases z
   refine⟨hu,hv,fun _=>q,fun _=>q,fun l h z1 z2=>?_⟩
   subst z1
   subst z2
   rcases hw with z|z <;> cases z
  | turned ea n=>
   refine tupA rfl ea (fun z=>absurd rfl z) fun u v z=>?_
   cases z
   refine⟨.kn (.int _),.kn (.int _),fun _=>q,fun _=>q,fun l h z1 z2=>?_⟩
   cases z1
   cases z2
   rw [decide_eq_false (by omega)]
   exact q
  | yes ea n=>
   refine tupA rfl ea (fun z=>absurd rfl z) fun u v z=>?_
   cases z
   refine⟨.kn (.int _),.kn (.int _),fun z=>(nomatch z),fun z=>(nomatch z),fun l h z1 z2=>?_⟩
   cases z1
   cases z2
   rw [decide_eq_true n]
   exact q
theorem cA {α β:Type} {F:α->β->Prop}:∀{xs:List α} {ys:List β} {i:Nat} {x:α},Paired F xs ys->xs[i]?=some x->∃y,ys[i]?=some y/\F x y
 | _,_,_,_,.nil,e=>by simp at e
 | _,_,0,_,.cons r _,e=>by
  simp at e
  subst e
  exact⟨_,rfl,r⟩
 | _,_,i+1,x,.cons _ t,e=>by
  obtain⟨u,h1,h2⟩:=cA (i:=i) (x:=x) t (by simpa using e)
  exact⟨u,by simpa using h1,h2⟩
def WorkP (os:List (Option (Int × Int))):Prop:=(∀(j:Nat) (o:Option (Int × Int)),os[j]?=some o->o.isSome=true)/\∀(k:Nat) (l h l' h':Int),os[k]?=some (some (l,h))->os[k+1]?=some (some (l',h'))->h<=l'
inductive AbW (H:Hp):V->Bool->Prop where
 | no {x:V} (h:Kn H x):AbW H x false
 | tup {a:Addr} {xs:List V} {os:List (Option (Int × Int))} {b:Bool} (e:H a=some (.tup xs)) (hl:xs.length<=1000) (h:Paired (xM H) xs os) (hb:b=true↔WorkP os):AbW H (.ref a) b
def xT:Sp:=fun vs H Q _=>∃x b,vs=[x]/\AbW H x b/\Q (.bl b) H
theorem yE:aP ["thing","stretch","index"] ["thing"] (aH sWork):=⟨rfl,rfl,rfl,by decide +kernel,rfl,by decide +kernel,by decide +kernel⟩
theorem ok_work {f fS fW:Addr} {fd fdS fdW:FuncData} (F:Fun K "is_work" "is_work" sWork f fd) (G:Gb mg) (FW:Fun K "is_whole" "is_whole" qA fW fdW) (bW:aO K fdW ["thing"] []) (mW:mg "is_whole"=some (.ref fW))
  (FS:Fun K "is_stretch" "is_stretch" lN fS fdS) (bS:aO K fdS ["thing"] []) (mS:mg "is_stretch"=some (.ref fS)):aJ P w K mg base CX0 3 f fd ["thing"] xT:=by
 have GS:aJ P w K mg base CX0 2 fS fdS ["thing"] sK:=zD FS G FW bW mW
 refine F.ok yE (fun vs H Q E h=>?_) (fun cdv A outer s H vs Q E hr h=>?_)
 ·obtain⟨x,b,rfl,_⟩:=h
  rfl
 ·obtain⟨x,b,rfl,hx,q⟩:=h
  refine⟨_,aC (cJ (dA (cW (aS aW (by rfl) G.isi cH (aA (pv 0) (aA (gC (v:=.ty "tuple") (by rfl) G.tuple gZ rfl) aB))))) (aI (aY lR)) bV)
   (aC (eU PassesOwn.never rfl (jC (pv 0)) (cG (i:=1) yE.nd rfl (Or.inl rfl)) (aI (cJ (dA (cW (aL GS hr rfl mS FS.kp bS .nil aN (aA (pv 1) aB)))) (aI (aY lR)) bV)))
   (aC (eU PassesOwn.never rfl (jQ rfl G.range (aA aE (aA (aS cR (by rfl) G.len PySem.boot_len (aA (pv 0) aB)) aB))) (cG (i:=2) yE.nd rfl (Or.inl rfl))
    (aI (cJ (cB fX (bJ bQ (bJ bQ (pv 0) (pv 2) (fun _ _=>rfl)) aE (fun _ _=>rfl)) (bJ bQ (bJ bQ (pv 0) (bU kX (pv 2) aE) (fun _ _=>rfl)) aE (fun _ _=>rfl)) (bX _)) (aI (aY lR)) bV)))
   (aI (aY lR)))),?_⟩
  cases hx with
  | no h=>
   obtain⟨t,ty,e⟩:=rM (K:=K) h
   refine⟨_,rfl,_,_,_,_,rfl,.ty "tuple",.inl ⟨t,ty,e⟩,_,rfl,?_⟩
   exact eP q
  | @tup a xs os b ea hl hp hb=>
   obtain⟨t,ty,e⟩:=iD (K:=K) ea
   refine⟨_,rfl,_,_,_,_,rfl,.ty "tuple",.inl ⟨t,ty,e⟩,_,rfl,?_⟩
   refine dH ?_
   refine⟨_,rfl,a,rfl,⟨_,SqT.of ea⟩,lV (K:=K) (a:=a) (xs:=xs) (fun i σ H2=>H2=H/\(∃v,σ=[some (.ref a),v,none])/\∀(j:Nat) (o:Option (Int × Int)),j<i->os[j]?=some o->o.isSome=true)
    ⟨rfl,⟨none,rfl⟩,fun j o hj=>absurd hj (Nat.not_lt_zero _)⟩ (fun i σ H2 _ ⟨e2,_⟩=>by subst e2;exact SqT.of ea) ?_ ?_⟩
   ·rintro i y σ H2 hi ⟨rfl,⟨v,rfl⟩,hall⟩
    obtain⟨o,ho,hs⟩:=cA hp hi
    refine⟨_,rfl,y,o,rfl,hs,_,rfl,?_⟩
    cases o with
    | none=>
     refine eP ?_
     have:b=false:=by
      cases b with
      | false=>rfl
      | true=>exact absurd ((hb.mp rfl).1 i none ho) (by simp)
     rw [this] at q
     exact q
    | some p=>
     refine dH ?_
     refine⟨rfl,⟨_,rfl⟩,fun j o' hj hj'=>?_⟩
     by_cases hji:j<i
     ·exact hall j o' hji hj'
     ·have:j=i:=by omega
      subst this
      rw [ho] at hj'
      cases hj'
      rfl
   ·rintro σ H2 ⟨rfl,⟨v,rfl⟩,hall⟩
    have len:os.length=xs.length:=hp.length.symm
    have at_:∀(k:Nat),k<xs.length->∃(c:Addr) (l h:Int),xs[k]?=some (.ref c)/\H2 c=some (.tup [.int l,.int h])/\os[k]?=some (some (l,h)):=fun k hk=>by
     have e1:xs[k]?=some xs[k]:=List.getElem?_eq_getElem hk
     obtain⟨o,ho,hs⟩:=cA hp e1
     have hso:=hall k o hk ho
     cases o with
     | none=>cases hso
     | some p=>
      generalize xs[k]=y at e1 hs
      cases hs with
      | @yes c l h ec n=>exact⟨c,l,h,e1,ec,ho⟩
    have hz:xs.length<2 ^ 62:=Nat.lt_of_le_of_lt hl (by decide)
    refine⟨_,rfl,a,xs,rfl,.inr (SqT.of ea),1,(xs.length:Int),rfl,⟨by decide,by decide,by omega,by omega⟩,iC (lo:=1) (n:=((xs.length:Int)-1).toNat)
     (fun i σ H3=>H3=H2/\(∃v u,σ=[some (.ref a),v,u])/\∀(k:Nat) (l h l' h':Int),k<i->os[k]?=some (some (l,h))->os[k+1]?=some (some (l',h'))->h<=l') ⟨rfl,⟨_,_,rfl⟩,fun k l h l' h' hk=>absurd hk (Nat.not_lt_zero _)⟩ ?_ ?_⟩
    ·rintro i σ H3 hi ⟨rfl,⟨v,u,rfl⟩,hr2⟩
     obtain⟨c,l,h,x1,x2,x3⟩:=at_ i (by omega)
     obtain⟨c',l',h',y1,y2,y3⟩:=at_ (i+1) (by omega)
     have i1:(1:Int)+(i:Int)=((i+1:Nat):Int):=by omega
     have i2:((i+1:Nat):Int)-1=((i:Nat):Int):=by omega
     rw [i1]
     refine⟨_,rfl,_,rfl,a,xs,_,_,rfl,rfl,SqT.of ea,aM y1,c',_,_,_,rfl,rfl,SqT.of y2,aM (j:=0) rfl,_,rfl,_,rfl,_,_,rfl,rfl,a,xs,_,_,rfl,rfl,SqT.of ea,(by rw [i2];exact aM x1),c,_,_,_,rfl,rfl,SqT.of x2,aM (j:=1) rfl,_,_,rfl,rfl,_,rfl,?_⟩
     refine eF (fun hc=>?_) (fun hc=>?_)
     ·have hc':l'<h:=by simpa using hc
      have:b=false:=by
       cases b with
       | false=>rfl
       | true=>
        have:=(hb.mp rfl).2 i l h l' h' x3 y3
        omega
      rw [this] at q
      exact q
     ·have hc':¬ l'<h:=by simpa using hc
      refine⟨rfl,⟨_,_,rfl⟩,fun k l2 h2 l3 h3 hk e1 e2=>?_⟩
      by_cases hki:k<i
      ·exact hr2 k l2 h2 l3 h3 hki e1 e2
      ·have:k=i:=by omega
       subst this
       rw [x3] at e1
       rw [y3] at e2
       cases e1
       cases e2
       omega
    ·rintro σ H3 ⟨rfl,⟨v,u,rfl⟩,hr2⟩
     have:b=true:=hb.mpr ⟨fun j o hj=>hall j o (by rw [<- len];exact(List.getElem?_eq_some_iff.mp hj).1) hj,fun k l h l' h' e1 e2=>hr2 k l h l' h' (by
      have:=(List.getElem?_eq_some_iff.mp e2).1
      omega) e1 e2⟩
     rw [this] at q
     exact q
def zX (H:Hp) (v:V) (p:Int × Int):Prop:=∃b,v=.ref b/\H b=some (.tup [.int p.1,.int p.2])
theorem bY {α β:Type} {F G:α->β->Prop} (f:∀a b,F a b->G a b):∀{xs:List α} {ys:List β},Paired F xs ys->Paired G xs ys
 | _,_,.nil=>.nil
 | _,_,.cons r t=>.cons (f _ _ r) (bY f t)
theorem dB {α β:Type} {F:α->β->Prop} {x:α} {y:β}:∀{xs:List α} {ys:List β},Paired F xs ys->F x y->Paired F (xs++[x]) (ys++[y])
 | _,_,.nil,h=>.cons h .nil
 | _,_,.cons r t,h=>.cons r (dB t h)
def cZ (H:Hp) (xs:List V) (ps:Lm.Ps):Prop:=Paired (zX H) xs ps
theorem cZ.same {H H':Hp} {xs:List V} {ps:Lm.Ps} (e:aR H H') (h:cZ H xs ps):cZ H' xs ps:=bY (fun v q ⟨b,z1,z2⟩=>⟨b,z1,e _ _ z2⟩) h
def dR (H:Hp) (p:Addr) (ps:Lm.Ps):Prop:=∃xs,H p=some (.tup xs)/\cZ H xs ps
theorem dR.same {H H':Hp} {p:Addr} {ps:Lm.Ps} (e:aR H H') (h:dR H p ps):dR H' p ps:=by
 obtain⟨xs,h1,h2⟩:=h
 exact⟨xs,e _ _ h1,h2.same e⟩
theorem sR {H:Hp}:∀{xs:List V} {ps:Lm.Ps},cZ H xs ps->(∀q ∈ ps,q.1<q.2)->Paired (xM H) xs (ps.map some)
 | _,_,.nil,_=>.nil
 | _,q::ps,.cons ⟨b,e1,e2⟩ t,h=>by
  subst e1
  exact .cons (.yes e2 (h q (List.mem_cons_self ..))) (sR t fun r hr=>h r (List.mem_cons_of_mem _ hr))
theorem AaB:∀{ps:Lm.Ps},Lm.Wk ps->∀(k:Nat) (l h l' h':Int),ps[k]?=some (l,h)->ps[k+1]?=some (l',h')->h<=l'
 | p::t,⟨h1,h2,h3⟩,0,l,h,l',h',e1,e2=>by
  cases e1
  exact h2 _ (List.mem_of_getElem? (i:=0) (by simpa using e2))
 | p::t,⟨h1,h2,h3⟩,k+1,l,h,l',h',e1,e2=>AaB h3 k l h l' h' (by simpa using e1) (by simpa using e2)
theorem dR.workV {H:Hp} {p:Addr} {ps:Lm.Ps} (h:dR H p ps) (wk:Lm.Wk ps) (hl:ps.length<=1000):AbW H (.ref p) true:=by
 obtain⟨xs,h1,h2⟩:=h
 refine .tup h1 (by rw [h2.length];exact hl) (sR h2 wk.lt) ⟨fun _=>⟨fun j o e=>?_,fun k l h l' h' e1 e2=>?_⟩,fun _=>rfl⟩
 ·rw [List.getElem?_map] at e
  cases z:ps[j]? with
  | none=>rw [z] at e;cases e
  | some q=>rw [z] at e;cases e;rfl
 ·rw [List.getElem?_map] at e1 e2
  cases z1:ps[k]? with
  | none=>rw [z1] at e1;cases e1
  | some q1=>
   cases z2:ps[k+1]? with
   | none=>rw [z2] at e2;cases e2
   | some q2=>
    rw [z1] at e1
    rw [z2] at e2
    cases e1
    cases e2
    exact AaB wk k l h l' h' z1 z2
def oR:Sp:=fun vs H Q _=>∃(p:Addr) (ps:Lm.Ps),vs=[.ref p]/\dR H p ps/\Lm.Wk ps/\ps.length<=1000/\Q .non H
theorem scCheck:aP ["work"] ["work"] (aH yW):=⟨rfl,rfl,rfl,by decide +kernel,rfl,by decide +kernel,by decide +kernel⟩
theorem AfW {f fK:Addr} {fd fdK:FuncData} (F:Fun K "check_work" "check_work" yW f fd) (GK:aJ P w K mg base CX0 3 fK fdK ["thing"] xT) (kp:keepIn K (.ref fK)=true) (bK:aO K fdK ["thing"] []) (mK:mg "is_work"=some (.ref fK)):
  aJ P w K mg base CX0 4 f fd ["work"] oR:=by
 refine F.ok scCheck (fun vs H Q E h=>?_) (fun cdv A outer s H vs Q E hr h=>?_)
 ·obtain⟨p,ps,rfl,_⟩:=h
  rfl
 ·obtain⟨p,ps,rfl,hw,wk,hl,q⟩:=h
  refine⟨_,aI (cJ (dA (cW (aL GK hr rfl mK kp bK .nil aN (aA (pv 0) aB)))) (aI qJ) bV),?_⟩
  exact⟨_,rfl,_,true,rfl,hw.workV wk hl,_,rfl,dH q⟩
def pO (K:Frag):Sp:=fun vs H Q _=>∃(p:Addr) (xs:List V) (ps:Lm.Ps),vs=[.ref p]/\(SqL K H p xs\/H p=some (.tup xs))/\cZ H xs ps/\ps.length<=1000/\∀r H',aR H H'->dR H' r (Lm.merged ps)->Q (.ref r) H'
def oO:Sp:=fun vs H Q _=>∃(p:Addr) (ps:Lm.Ps),vs=[.ref p]/\dR H p ps/\Lm.Wk ps/\ps.length<=1000/\∀r H',aR H H'->dR H' r (Lm.merged ps)->Q (.ref r) H'
theorem oB {α β:Type} {F:α->β->Prop}:∀{xs:List α} {ys:List β} {y:β},Paired F xs (ys++[y])->∃us u,xs=us++[u]/\Paired F us ys/\F u y
 | _,[],y,.cons r .nil=>⟨[],_,rfl,.nil,r⟩
 | x::xs,b::ys,y,.cons r t=>by
  obtain⟨us,u,e,p,f⟩:=oB (ys:=ys) t
  exact⟨x::us,u,by rw [e];rfl,.cons r p,f⟩
theorem AeC {α:Type} (us:List α) (u v:α):(us++[u]).set us.length v=us++[v]:=by
 induction us with
 | nil=>rfl
 | cons a us ih=>
  show a::(us++[u]).set us.length v=a::(us++[v])
  rw [ih]
theorem AgK {n:Nat}:ixN (n+1) (-1)=some n:=by
 unfold ixN
 rw [if_neg (by decide),if_pos (by omega)]
 congr 1
 omega
def Found (qs ps:Lm.Ps) (i:Nat):Prop:=(qs=[]/\i=0)\/∃done c,qs=done++[c]/\done++Lm.mg c (ps.drop i)=Lm.merged ps
theorem for_seq {K:PySem.W.Frag} {a:Addr} {xs:List V} {g:TG} {tb:TS} {D:jI} {σ:St} {H:Hp} (Pv:Nat->St->Hp->Prop) (h0:Pv 0 σ H)
  (hk:(∀i σ H,i<=xs.length->Pv i σ H->SqL K H a xs)\/(∀i σ H,i<=xs.length->Pv i σ H->SqT K H a xs))
  (hs:∀i x σ H,xs[i]?=some x->Pv i σ H->g x σ H fun σ2 H2=>tb { D with nx:=Pv (i+1),ct:=Pv (i+1),bk:=D.nx } σ2 H2) (hd:∀ σ H,Pv xs.length σ H->D.nx σ H):
  ((∃xs,SqL K H a xs)/\∃W:Nat->Nat->St->Hp->Prop,(∃m,W 0 m σ H)/\∀i m σ H,W i m σ H ->
   ((Itl K a).stop i H/\D.nx σ H)\/((Itl K a).go i H/\∃N:St->Hp->Prop,(∀ σ' H',N σ' H'->∃m',m'<m/\W (i+1) m' σ' H')/\∀x H',(Itl K a).yld i H x H'->g x σ H' fun σ2 H2=>tb { D with nx:=N,ct:=N,bk:=D.nx } σ2 H2)) \/
  ((∃xs,SqT K H a xs)/\∃W:Nat->Nat->St->Hp->Prop,(∃m,W 0 m σ H)/\∀i m σ H,W i m σ H ->
   ((Itt K a).stop i H/\D.nx σ H)\/((Itt K a).go i H/\∃N:St->Hp->Prop,(∀ σ' H',N σ' H'->∃m',m'<m/\W (i+1) m' σ' H')/\∀x H',(Itt K a).yld i H x H'->g x σ H' fun σ2 H2=>tb { D with nx:=N,ct:=N,bk:=D.nx } σ2 H2)):=
 hk.elim (fun k=>.inl ⟨⟨xs,k 0 σ H (Nat.zero_le _) h0⟩,AgS Pv h0 k hs hd⟩) fun k=>.inr ⟨⟨xs,k 0 σ H (Nat.zero_le _) h0⟩,lV Pv h0 k hs hd⟩
theorem lL:aP ["stretches","whole","low","high"] ["stretches"] (aH uI):=⟨rfl,rfl,rfl,by decide +kernel,rfl,by decide +kernel,by decide +kernel⟩
theorem AcO {f:Addr} {fd:FuncData} (F:Fun K "merged" "merged" uI f fd) (G:Gb mg):aJ P w K mg base CX0 1 f fd ["stretches"] (pO K):=by
 refine F.ok lL (fun vs H Q E h=>?_) (fun cdv A outer s H vs Q E hr h=>?_)
 ·obtain⟨p,xs,ps,rfl,_⟩:=h
  rfl
 ·obtain⟨p,xs,ps,rfl,hp,pr,hl,q⟩:=h
  refine⟨_,(aC (aU (i:=1) lL.nd rfl (Or.inl rfl) (cN aB)) (aC (eU PassesOwn.never rfl (pi_seq (pv 0)) (jD rfl (cX (cG (i:=2) lL.nd rfl (Or.inl rfl)) (cX (cG (i:=3) lL.nd rfl (Or.inl rfl)) gB))) (aI (cJ (PW.pt (kR (hX (pv 1) (fun _=>rfl)) (iI (cB lT (pv 2) (bJ bQ (bJ cV (pv 1) (sQ lZ aE) (fun _ _=>rfl)) aE (fun _ _=>rfl)) (bX _))))) (aI (yY (cC (aA (bJ bQ (bJ cV (pv 1) (sQ lZ aE) (fun _ _=>rfl)) aE (fun _ _=>rfl)) (aA (aS (AdQ rfl) (by rfl) G.max boot_mx (aA (bJ bQ (bJ cV (pv 1) (sQ lZ aE) (fun _ _=>rfl)) aE (fun _ _=>rfl)) (aA (pv 3) aB))) aB))) (zA (pv 1) (sQ lZ aE) pW))) (aI (cT (wF PySem.F.plainAttrs_list PySem.F.slot_list_append PySem.F.type_list_append eL (pv 1) (aA (cC (aA (pv 2) (aA (pv 3) aB))) aB))))))) (aI (aY (dU dW (by rfl) G.tuple gZ (aA (pv 1) aB)))))),?_⟩
  have sl:sizeLine=16777216:=sizeLine_eq
  have lx:xs.length=ps.length:=pr.length
  refine⟨Nat.zero_le _,fun l hn=>?_⟩
  have hk:(∀{H2:Hp},aR H H2->SqL K H2 p xs)\/(∀{H2:Hp},aR H H2->SqT K H2 p xs):=hp.elim (fun z=>.inl fun e=>e.seq z) fun z=>.inr fun e=>SqT.of (e _ _ z)
  refine⟨_,rfl,p,rfl,for_seq (K:=K) (a:=p) (xs:=xs) (fun i σ H2=>aR H H2/\∃ws qs u v,H2 l=some (.lst ws)/\cZ H2 ws qs/\Found qs ps i/\qs.length<=i/\σ=[some (.ref p),some (.ref l),u,v])
   ⟨aK hn,[],[],_,_,aD,.nil,.inl ⟨rfl,rfl⟩,Nat.le_refl _,rfl⟩ (hk.elim (fun z=>.inl fun i σ H2 _ ⟨e,_⟩=>z e) fun z=>.inr fun i σ H2 _ ⟨e,_⟩=>z e) ?_ ?_⟩
  ·rintro i x σ H2 hi ⟨sm,ws,qs,u,v,hL,pq,fo,ql,rfl⟩
   obtain⟨y,hy,b',rfl,hb'⟩:=cA pr hi
   have il:i<xs.length:=(List.getElem?_eq_some_iff.mp hi).1
   have dr:ps.drop i=y::ps.drop (i+1):=by
    rw [List.drop_eq_getElem_cons (by omega)]
    congr 1
    exact Option.some.inj ((List.getElem?_eq_getElem (by omega)).symm.trans hy)
   have wl:ws.length=qs.length:=pq.length
   refine⟨b',_,rfl,SqT.of (sm _ _ hb'),rfl,_,_,rfl,_,_,rfl,rfl,?_⟩
   have put:∀H3 (o:HO),aR H2 H3->aR H (upd H3 l o):=fun H3 o e b z hz=>by
    rw [aG (aF hz hn)]
    exact e _ _ (sm _ _ hz)
   have keep:∀{H3:Hp} {o:HO} {us:List V} {rs:Lm.Ps},aR H2 H3->cZ H2 us rs->cZ (upd H3 l o) us rs:=fun {H3 o us rs} e h=>bY (fun v q ⟨b,z1,z2⟩=>⟨b,z1,by
    rw [aG (aX z2 hL (by intro z;cases z))]
    exact e _ _ z2⟩) h
   have app:Found (qs++[y]) ps (i+1)->∀D:jI,(∀H3 ws qs,aR H H3->H3 l=some (.lst ws)->cZ H3 ws qs->Found qs ps (i+1)->qs.length<=i+1->D.nx [some (.ref p),some (.ref l),some (.int y.1),some (.int y.2)] H3) ->
     (tDrop (tBM K "list" AaQ (iE 1) (hG (tTup (hG (iE 2) (hG (iE 3) oH))) oH))) D [some (.ref p),some (.ref l),some (.int y.1),some (.int y.2)] H2:=fun fo D hN=>by
    refine⟨_,rfl,.inl ⟨rfl,_,SqL.of hL⟩,_,rfl,_,rfl,by show 2<=sizeLine;decide,fun t ht=>?_⟩
    have nt:l≠t:=aF hL ht
    refine⟨l,_,_,rfl,rfl,by rw [aG nt];exact hL,by omega,?_⟩
    refine hN _ _ (qs++[y]) (put _ _ (aK ht)) aD (dB (keep (aK ht) pq) ⟨t,rfl,?_⟩) fo (by rw [List.length_append];show qs.length+1<=i+1;omega)
    rw [aG nt.symm]
    exact aD
   refine⟨_,rfl,_,.inl ⟨ws,SqL.of hL,rfl⟩,?_⟩
   rcases fo with ⟨rfl,rfl⟩|⟨done,c,rfl,fo⟩
   ·cases pq
    refine dH ?_
    exact app (.inr ⟨[],y,rfl,by rw [List.nil_append];cases ps with|nil=>cases hy|cons a ps=>(cases hy;rfl)⟩) _ fun H3 ws qs e1 e2 e3 e4 e5=>⟨e1,ws,qs,_,_,e2,e3,e4,e5,rfl⟩
   ·obtain⟨us,u',rfl,pu,cb,rfl,hcb⟩:=oB pq
    have ne:(!(us++[V.ref cb]).isEmpty)=true:=by
     cases us <;> rfl
    rw [ne]
    refine eP ?_
    rw [dr] at fo
    refine⟨_,rfl,_,rfl,_,rfl,l,_,_,_,rfl,rfl,SqL.of hL,rK _ _,cb,_,_,_,rfl,rfl,SqT.of hcb,aM (j:=1) rfl,_,_,rfl,rfl,_,rfl,?_⟩
    refine eF (fun hc=>?_) (fun hc=>?_)
    ·have hc':y.1<=c.2:=of_decide_eq_true hc
     have fo2:done++Lm.mg (c.1,if y.2 > c.2 then y.2 else c.2) (ps.drop (i+1))=Lm.merged ps:=by
      rw [<- fo]
      congr 1
      show _=(if y.1<=c.2 then _ else _)
      rw [if_pos hc']
     refine⟨_,rfl,_,rfl,l,_,_,_,rfl,rfl,SqL.of hL,rK _ _,cb,_,_,_,rfl,rfl,SqT.of hcb,aM (j:=0) rfl,?_⟩
     refine⟨_,rfl,_,rfl,l,_,_,_,rfl,rfl,SqL.of hL,rK _ _,cb,_,_,_,rfl,rfl,SqT.of hcb,aM (j:=1) rfl,_,rfl,_,_,rfl,by show 2<=sizeLine;decide,fun t ht=>?_⟩
     have nt:l≠t:=aF hL ht
     refine⟨_,rfl,_,rfl,l,_,_,us.length,rfl,rfl,by rw [aG nt];exact hL,by rw [List.length_append];exact AgK,?_⟩
     refine⟨put _ _ (aK ht),us++[.ref t],done++[(c.1,if y.2 > c.2 then y.2 else c.2)],_,_,?_,?_,.inr ⟨done,_,rfl,fo2⟩,?_,rfl⟩
     ·rw [AeC]
      exact aD
     ·refine dB (keep (aK ht) pu) ⟨t,rfl,?_⟩
      rw [aG nt.symm]
      exact aD
     ·rw [List.length_append] at ql ⊢
      show done.length+1<=i+1
      have:done.length+1<=i:=ql
      omega
    ·have hc':¬ y.1<=c.2:=fun z=>hc (decide_eq_true z)
     refine app (.inr ⟨done++[c],y,rfl,?_⟩) _ fun H3 ws qs e1 e2 e3 e4 e5=>⟨e1,ws,qs,_,_,e2,e3,e4,e5,rfl⟩
     rw [<- fo,List.append_assoc]
     congr 1
     show _=(if y.1<=c.2 then _ else _)
     rw [if_neg hc']
     rfl
  ·rintro σ H2 ⟨sm,ws,qs,u,v,hL,pq,fo,ql,rfl⟩
   have eq:qs=Lm.merged ps:=by
    have dn:ps.drop xs.length=[]:=List.drop_of_length_le (by omega)
    rcases fo with ⟨rfl,h0⟩|⟨done,c,rfl,fo⟩
    ·cases ps with
     | nil=>rfl
     | cons a t=>rw [lx] at h0;cases h0
    ·rw [<- fo,dn]
     rfl
   subst eq
   refine⟨_,rfl,l,_,rfl,.inl ⟨SqL.of hL,fun r hr'=>?_⟩⟩
   exact q r _ (sm.trans (aK hr')) ⟨ws,aD,pq.same (aK hr')⟩
theorem scShort:aP ["work"] ["work"] (aH yI):=⟨rfl,rfl,rfl,by decide +kernel,rfl,by decide +kernel,by decide +kernel⟩
theorem AfJ {f fC fM:Addr} {fd fdC fdM:FuncData} (F:Fun K "short_form" "short_form" yI f fd) (GC:aJ P w K mg base CX0 4 fC fdC ["work"] oR) (kC:keepIn K (.ref fC)=true) (bC:aO K fdC ["work"] []) (mC:mg "check_work"=some (.ref fC))
  (GM:aJ P w K mg base CX0 4 fM fdM ["stretches"] (pO K)) (kM:keepIn K (.ref fM)=true) (bM:aO K fdM ["stretches"] []) (mM:mg "merged"=some (.ref fM)):aJ P w K mg base CX0 5 f fd ["work"] oO:=by
 refine F.ok scShort (fun vs H Q E h=>?_) (fun cdv A outer s H vs Q E hr h=>?_)
 ·obtain⟨p,ps,rfl,_⟩:=h
  rfl
 ·obtain⟨p,ps,rfl,hw,wk,hl,q⟩:=h
  refine⟨_,aC (cT (aL GC hr rfl mC kC bC .nil aN (aA (pv 0) aB))) (aI (aY (aL GM hr rfl mM kM bM .nil aN (aA (pv 0) aB)))),?_⟩
  obtain⟨xs,h1,h2⟩:=id hw
  exact⟨_,rfl,p,ps,rfl,hw,wk,hl,_,rfl,p,xs,ps,rfl,.inr h1,h2,hl,q⟩
def sI:Sp:=fun vs H Q _=>∃(p q:Addr) (a b:Lm.Ps),vs=[.ref p,.ref q]/\dR H p a/\dR H q b/\Lm.Wk a/\Lm.Wk b/\a.length<=1000/\b.length<=1000/\∀r H',aR H H'->dR H' r (Lm.wo (Lm.merged a) (Lm.merged b))->Q (.ref r) H'
theorem AfF {H:Hp} {xs:List V} {ps:Lm.Ps} (h:cZ H xs ps) {i:Nat} (hi:i<ps.length):∃b,xs[i]?=some (.ref b)/\H b=some (.tup [.int ps[i].1,.int ps[i].2]):=by
 have hx:i<xs.length:=by rw [h.length];exact hi
 obtain⟨y,hy,b,e1,e2⟩:=cA h (List.getElem?_eq_getElem hx)
 have:y=ps[i]:=Option.some.inj (hy.symm.trans (List.getElem?_eq_getElem hi))
 subst this
 exact⟨b,by rw [List.getElem?_eq_getElem hx,e1],e2⟩
theorem dL:aP ["one","other","kept","gone","rest","first","low","high","at","index"] ["one","other"] (aH pZ):=⟨rfl,rfl,rfl,by decide +kernel,rfl,by decide +kernel,by decide +kernel⟩
theorem zC {f fS:Addr} {fd fdS:FuncData} (F:Fun K "without" "without" pZ f fd) (G:Gb mg) (GS:aJ P w K mg base CX0 5 fS fdS ["work"] oO) (kS:keepIn K (.ref fS)=true) (bS:aO K fdS ["work"] []) (mS:mg "short_form"=some (.ref fS)):
  aJ P w K mg base CX0 6 f fd ["one","other"] sI:=by
 refine F.ok dL (fun vs H Q E h=>?_) (fun cdv A outer s H vs Q E hr h=>?_)
 ·obtain⟨p,q,a,b,rfl,_⟩:=h
  rfl
 ·obtain⟨p,q,a,b,rfl,ha,hb,wa,wb,la,lb,fin⟩:=h
  refine⟨_,(aC (aU (i:=2) dL.nd rfl (Or.inl rfl) (aL GS hr rfl mS kS bS .nil aN (aA (pv 0) aB))) (aC (aU (i:=3) dL.nd rfl (Or.inl rfl) (aL GS hr rfl mS kS bS .nil aN (aA (pv 1) aB))) (aC (aU (i:=4) dL.nd rfl (Or.inl rfl) (cN aB)) (aC (aU (i:=5) dL.nd rfl (Or.inl rfl) aE) (aC (eU PassesOwn.never rfl (jC (pv 2)) (jD rfl (cX (cG (i:=6) dL.nd rfl (Or.inl rfl)) (cX (cG (i:=7) dL.nd rfl (Or.inl rfl)) gB))) (aC (wC PassesOwn.never (PW.pt (kR (cB fX (pv 5) (aS cR (by rfl) G.len PySem.boot_len (aA (pv 3) aB)) (bX _)) (iI (cB lT (bJ bQ (bJ bQ (pv 3) (pv 5) (fun _ _=>rfl)) aE (fun _ _=>rfl)) (pv 6) (bX _))))) (aI (AeT (i:=5) dL.nd rfl (Or.inl rfl) aE AgL))) (aC (aU (i:=8) dL.nd rfl (Or.inl rfl) (pv 6)) (aC (aU (i:=9) dL.nd rfl (Or.inl rfl) (pv 5)) (aC (wC PassesOwn.never (PW.pt (kR (cB fX (pv 9) (aS cR (by rfl) G.len PySem.boot_len (aA (pv 3) aB)) (bX _)) (iI (cB fX (bJ bQ (bJ bQ (pv 3) (pv 9) (fun _ _=>rfl)) aE (fun _ _=>rfl)) (pv 7) (bX _))))) (aC (cJ (cB fX (pv 8) (bJ bQ (bJ bQ (pv 3) (pv 9) (fun _ _=>rfl)) aE (fun _ _=>rfl)) (bX _)) (aI (cT (wF PySem.F.plainAttrs_list PySem.F.slot_list_append PySem.F.type_list_append eL (pv 4) (aA (cC (aA (pv 8) (aA (bJ bQ (bJ bQ (pv 3) (pv 9) (fun _ _=>rfl)) aE (fun _ _=>rfl)) aB))) aB)))) bV) (aC (aU (i:=8) dL.nd rfl (Or.inl rfl) (bJ bQ (bJ bQ (pv 3) (pv 9) (fun _ _=>rfl)) aE (fun _ _=>rfl))) (aI (AeT (i:=9) dL.nd rfl (Or.inl rfl) aE AgL))))) (aI (cJ (cB fX (pv 8) (pv 7) (bX _)) (aI (cT (wF PySem.F.plainAttrs_list PySem.F.slot_list_append PySem.F.type_list_append eL (pv 4) (aA (cC (aA (pv 8) (aA (pv 7) aB))) aB)))) bV))))))) (aI (aY (dU dW (by rfl) G.tuple gZ (aA (pv 4) aB))))))))),?_⟩
  have sl:sizeLine=16777216:=sizeLine_eq
  refine⟨_,rfl,p,a,rfl,ha,wa,la,fun kp H1 s1 hk=>?_⟩
  refine⟨_,rfl,q,b,rfl,hb.same s1,wb,lb,fun gn H0 s2 hg=>?_⟩
  obtain⟨sk,mk,lk⟩:=Lm.merged_ok wa.lo
  obtain⟨sg,mg',lg⟩:=Lm.merged_ok wb.lo
  generalize Lm.merged a=ks at hk sk lk fin
  generalize Lm.merged b=gs at hg sg lg fin
  obtain⟨kx,hk1,hk2⟩:=hk.same s2
  obtain⟨gx,hg1,hg2⟩:=hg
  have s0:=s1.trans s2
  have wl:=Lm.wo_len sk sg
  have lkx:kx.length=ks.length:=hk2.length
  have lgx:gx.length=gs.length:=hg2.length
  refine⟨Nat.zero_le _,fun l hn=>?_⟩
  refine⟨_,rfl,kp,rfl,⟨_,SqT.of (aK hn _ _ hk1)⟩,lV (K:=K) (a:=kp) (xs:=kx) (fun i σ H2=>aR H0 H2/\∃ws rs fi u1 u2 u3 u4,H2 l=some (.lst ws)/\cZ H2 ws rs/\rs++Lm.wo (ks.drop i) (gs.drop fi)=Lm.wo ks gs/\fi<=gs.length/\σ=[some (.ref p),some (.ref q),some (.ref kp),some (.ref gn),some (.ref l),some (.int (fi:Nat)),u1,u2,u3,u4])
   ⟨aK hn,[],[],0,_,_,_,_,aD,.nil,rfl,Nat.zero_le _,rfl⟩ (fun i σ H2 _ ⟨e,_⟩=>SqT.of (e _ _ hk1)) ?_ ?_⟩
  ·rintro i x σ H2 hi ⟨sm,ws,rs,fi,u1,u2,u3,u4,hL,pq,eq,fl,rfl⟩
   obtain⟨y,hy,b',rfl,hb'⟩:=cA hk2 hi
   have il:i<kx.length:=(List.getElem?_eq_some_iff.mp hi).1
   have dr:ks.drop i=y::ks.drop (i+1):=by
    rw [List.drop_eq_getElem_cons (by omega)]
    congr 1
    exact Option.some.inj ((List.getElem?_eq_getElem (by omega)).symm.trans hy)
   refine⟨b',_,rfl,SqT.of (sm _ _ hb'),rfl,_,_,rfl,_,_,rfl,rfl,?_⟩
   have gat:∀{H3:Hp} {k:Nat},aR H0 H3->k<gs.length->∃gb,atI gx (k:Int)=some (.ref gb)/\H3 gb=some (.tup [.int (gs.getD k (0,0)).1,.int (gs.getD k (0,0)).2]):=fun {H3 k} e hk=>by
    obtain⟨gb,e1,e2⟩:=AfF hg2 hk
    refine⟨gb,aM e1,?_⟩
    rw [List.getD_eq_getElem?_getD,List.getElem?_eq_getElem hk]
    exact e _ _ e2
   have gdr:∀{k:Nat},k<gs.length->gs.drop k=gs.getD k (0,0)::gs.drop (k+1):=fun {k} hk=>by
    rw [List.drop_eq_getElem_cons hk,List.getD_eq_getElem?_getD,List.getElem?_eq_getElem hk]
    rfl
   have hg3:∀{H3:Hp},aR H0 H3->SqT K H3 gn gx:=fun e=>SqT.of (e _ _ hg1)
   rw [dr] at eq
   have eq0:rs++(Lm.cut y.1 y.2 (Lm.skip y.1 (gs.drop fi))++Lm.wo (ks.drop (i+1)) (Lm.skip y.1 (gs.drop fi)))=Lm.wo ks gs:=eq
   have put:∀{H3 H4:Hp} {o:HO},aR H0 H3->aR H3 H4->aR H0 (upd H4 l o):=fun {H3 H4 o} e1 e2 b z hz=>by
    rw [aG (aF hz hn)]
    exact e2 _ _ (e1 _ _ hz)
   have keep:∀{H3 H4:Hp} {o:HO} {us vs:List V} {rs:Lm.Ps},H3 l=some (.lst vs)->aR H3 H4->cZ H3 us rs->cZ (upd H4 l o) us rs:=fun {H3 H4 o us vs rs} hL e h=>bY (fun v q ⟨b,z1,z2⟩=>⟨b,z1,by
    rw [aG (aX z2 hL (by intro z;cases z))]
    exact e _ _ z2⟩) h
   refine vK (fun σ H3=>H3=H2/\∃f:Nat,f<=gs.length/\Lm.skip y.1 (gs.drop f)=Lm.skip y.1 (gs.drop fi)/\σ=[some (.ref p),some (.ref q),some (.ref kp),some (.ref gn),some (.ref l),some (.int (f:Nat)),some (.int y.1),some (.int y.2),u3,u4])
    (fun σ _=>match σ with | [_,_,_,_,_,some (.int f),_,_,_,_]=>gs.length-f.toNat|_=>0) ⟨rfl,fi,fl,rfl,rfl⟩ ?_ ?_
   ·rintro σ H3 ⟨rfl,f,hf,es,rfl⟩
    refine⟨_,rfl,_,rfl,gn,gx,rfl,.inr (hg3 sm),_,_,rfl,rfl,_,rfl,?_⟩
    refine eF (fun h1=>?_) (fun h1=>dH ?_)
    have f1:f<gs.length:=by
     have:=of_decide_eq_true h1
     omega
    obtain⟨gb,g1,g2⟩:=gat sm f1
    refine⟨_,rfl,_,rfl,gn,gx,_,_,rfl,rfl,hg3 sm,g1,gb,_,_,_,rfl,rfl,SqT.of g2,aM (j:=1) rfl,_,rfl,_,_,rfl,rfl,_,rfl,?_⟩
    refine eF (fun h2=>?_) (fun h2=>?_)
    ·have h2':(gs.getD f (0,0)).2<=y.1:=of_decide_eq_true h2
     refine⟨_,rfl,_,_,rfl,rfl,⟨rfl,f+1,f1,?_,by rfl⟩,?_⟩
     ·rw [<- es,gdr f1]
      show _=(if (gs.getD f (0,0)).2<=y.1 then _ else _)
      rw [if_pos h2']
     ·show gs.length-((f:Int)+1).toNat<gs.length-(f:Int).toNat
      omega
    have ef:Lm.skip y.1 (gs.drop f)=gs.drop f:=by
     have h2':¬ (gs.getD f (0,0)).2<=y.1:=fun z=>h2 (decide_eq_true z)
     rw [gdr f1]
     show (if (gs.getD f (0,0)).2<=y.1 then _ else _)=_
     rw [if_neg h2']
    rotate_left
    have ef:Lm.skip y.1 (gs.drop f)=gs.drop f:=by
     have h1':¬ (f:Int)<(gx.length:Int):=fun z=>h1 (decide_eq_true z)
     rw [List.drop_of_length_le (by omega)]
     rfl
    all_goals
     rw [<- es,ef] at eq0
     refine⟨_,rfl,_,rfl,?_⟩
     refine vK (fun σ H3=>aR H0 H3/\∃(ws:List V) (rs:Lm.Ps) (at_:Int) (ix:Nat),ix<=gs.length/\H3 l=some (.lst ws)/\cZ H3 ws rs/\rs++(Lm.cut at_ y.2 (gs.drop ix)++Lm.wo (ks.drop (i+1)) (gs.drop f))=Lm.wo ks gs /\
       σ=[some (.ref p),some (.ref q),some (.ref kp),some (.ref gn),some (.ref l),some (.int (f:Nat)),some (.int y.1),some (.int y.2),some (.int at_),some (.int (ix:Nat))])
      (fun σ _=>match σ with | [_,_,_,_,_,_,_,_,_,some (.int f)]=>gs.length-f.toNat|_=>0) ⟨sm,ws,rs,y.1,f,hf,hL,pq,eq0,rfl⟩ ?_ ?_
     ·rintro σ H4 ⟨sm4,ws4,rs4,at_,jx,hj,hL4,pq4,eq4,rfl⟩
      have wl4:ws4.length=rs4.length:=pq4.length
      have bound:rs4.length<=2000:=by
       have:=congrArg List.length eq4
       rw [List.length_append] at this
       omega
      refine⟨_,rfl,_,rfl,gn,gx,rfl,.inr (hg3 sm4),_,_,rfl,rfl,_,rfl,?_⟩
      refine eF (fun h3=>?_) (fun h3=>dH ?_)
      have j1:jx<gs.length:=by
       have:=of_decide_eq_true h3
       omega
      obtain⟨gb,g1,g2⟩:=gat sm4 j1
      refine⟨_,rfl,_,rfl,gn,gx,_,_,rfl,rfl,hg3 sm4,g1,gb,_,_,_,rfl,rfl,SqT.of g2,aM (j:=0) rfl,_,rfl,_,_,rfl,rfl,_,rfl,?_⟩
      refine eF (fun h4=>?_) (fun h4=>?_)
      ·have h4':(gs.getD jx (0,0)).1<y.2:=of_decide_eq_true h4
       have ec:Lm.cut at_ y.2 (gs.drop jx)=(if at_<(gs.getD jx (0,0)).1 then [(at_,(gs.getD jx (0,0)).1)] else [])++Lm.cut (gs.getD jx (0,0)).2 y.2 (gs.drop (jx+1)):=by
        rw [gdr j1]
        show (if (gs.getD jx (0,0)).1<y.2 then _ else _)=_
        rw [if_pos h4']
       rw [ec] at eq4
       have ms:gs.length-((jx:Int)+1).toNat<gs.length-(jx:Int).toNat:=by omega
       refine⟨_,rfl,_,rfl,_,rfl,gn,gx,_,_,rfl,rfl,hg3 sm4,g1,gb,_,_,_,rfl,rfl,SqT.of g2,aM (j:=0) rfl,_,_,rfl,rfl,_,rfl,?_⟩
       refine eF (fun h5=>?_) (fun h5=>?_)
       ·rw [if_pos (of_decide_eq_true h5)] at eq4
        refine⟨_,rfl,.inl ⟨rfl,_,SqL.of hL4⟩,_,rfl,_,rfl,_,rfl,gn,gx,_,_,rfl,rfl,hg3 sm4,g1,gb,_,_,_,rfl,rfl,SqT.of g2,aM (j:=0) rfl,by show 2<=sizeLine;decide,fun t ht=>?_⟩
        have nt:l≠t:=aF hL4 ht
        refine⟨l,_,_,rfl,rfl,by rw [aG nt];exact hL4,by omega,?_⟩
        have sm5:=put (o:=.lst (ws4++[.ref t])) sm4 (aK (o:=.tup [.int at_,.int (gs.getD jx (0,0)).1]) ht)
        have pq5:cZ (upd (upd H4 t (.tup [.int at_,.int (gs.getD jx (0,0)).1])) l (.lst (ws4++[.ref t]))) (ws4++[.ref t]) (rs4++[(at_,(gs.getD jx (0,0)).1)]):=dB (keep hL4 (aK ht) pq4) ⟨t,rfl,by rw [aG nt.symm];exact aD⟩
        have g5:∀bb ys,H4 bb=some (.tup ys)->(upd (upd H4 t (.tup [.int at_,.int (gs.getD jx (0,0)).1])) l (.lst (ws4++[.ref t]))) bb=some (.tup ys):=fun bb ys z=>by
         rw [aG (aX z hL4 (by intro z;cases z)),aG (aF z ht)]
         exact z
        refine⟨_,rfl,_,rfl,gn,gx,_,_,rfl,rfl,hg3 sm5,g1,gb,_,_,_,rfl,rfl,SqT.of (g5 _ _ g2),aM (j:=1) rfl,?_⟩
        exact⟨_,rfl,_,_,rfl,rfl,⟨sm5,_,_,_,jx+1,j1,aD,pq5,by rw [<- eq4];simp,rfl⟩,ms⟩
       ·rw [if_neg (fun z=>h5 (decide_eq_true z))] at eq4
        refine⟨_,rfl,_,rfl,gn,gx,_,_,rfl,rfl,hg3 sm4,g1,gb,_,_,_,rfl,rfl,SqT.of g2,aM (j:=1) rfl,?_⟩
        exact⟨_,rfl,_,_,rfl,rfl,⟨sm4,_,_,_,jx+1,j1,hL4,pq4,eq4,rfl⟩,ms⟩
      have ec:Lm.cut at_ y.2 (gs.drop jx)=if at_<y.2 then [(at_,y.2)] else []:=by
       rw [gdr j1]
       show (if (gs.getD jx (0,0)).1<y.2 then _ else _)=_
       rw [if_neg (fun z=>h4 (decide_eq_true z))]
      rotate_left
      have ec:Lm.cut at_ y.2 (gs.drop jx)=if at_<y.2 then [(at_,y.2)] else []:=by
       have h3':¬ (jx:Int)<(gx.length:Int):=fun z=>h3 (decide_eq_true z)
       rw [List.drop_of_length_le (by omega)]
       rfl
      all_goals
       rw [ec] at eq4
       refine⟨_,rfl,_,rfl,_,_,rfl,rfl,_,rfl,?_⟩
       refine eF (fun h6=>?_) (fun h6=>?_)
       ·rw [if_pos (of_decide_eq_true h6)] at eq4
        refine⟨_,rfl,.inl ⟨rfl,_,SqL.of hL4⟩,_,rfl,_,rfl,by show 2<=sizeLine;decide,fun t ht=>?_⟩
        have nt:l≠t:=aF hL4 ht
        refine⟨l,_,_,rfl,rfl,by rw [aG nt];exact hL4,by omega,?_⟩
        refine⟨put sm4 (aK ht),ws4++[.ref t],rs4++[(at_,y.2)],f,_,_,_,_,aD,dB (keep hL4 (aK ht) pq4) ⟨t,rfl,by rw [aG nt.symm];exact aD⟩,by rw [<- eq4];simp,hf,rfl⟩
       ·rw [if_neg (fun z=>h6 (decide_eq_true z))] at eq4
        exact⟨sm4,ws4,rs4,f,_,_,_,_,hL4,pq4,eq4,hf,rfl⟩
     ·rintro σ H2 Q1 Q2 hq ⟨v,e1,v2,f1,pp,ys,f2,f3,i',j',e2,e3,k,e4,h⟩
      refine⟨v,e1,v2,f1,pp,ys,f2,f3,i',j',e2,e3,k,e4,?_⟩
      cases k with
      | false=>exact dH (hq _ _ (by simpa using h))
      | true=>
       rw [if_pos rfl] at h
       obtain⟨a1,a2,a3,a4,p1,x1,i1,v1,b1,b2,b3,b4,p2,x2,i2,v2',c1,c2,c3,c4,d1,d2,i3,j3,g2,g3,k3,g4,h⟩:=h
       exact eP ⟨a1,a2,a3,a4,p1,x1,i1,v1,b1,b2,b3,b4,p2,x2,i2,v2',c1,c2,c3,c4,d1,d2,i3,j3,g2,g3,k3,g4,hq _ _ h⟩
   ·rintro σ H2 Q1 Q2 hq ⟨v,e1,v2,f1,pp,ys,f2,f3,i',j',e2,e3,k,e4,h⟩
    refine⟨v,e1,v2,f1,pp,ys,f2,f3,i',j',e2,e3,k,e4,?_⟩
    cases k with
    | false=>exact dH (hq _ _ (by simpa using h))
    | true=>
     rw [if_pos rfl] at h
     obtain⟨a1,a2,a3,a4,p1,x1,i1,v1,b1,b2,b3,b4,p2,x2,i2,v2',c1,c2,c3,c4,d1,d2,i3,j3,g2,g3,k3,g4,h⟩:=h
     exact eP ⟨a1,a2,a3,a4,p1,x1,i1,v1,b1,b2,b3,b4,p2,x2,i2,v2',c1,c2,c3,c4,d1,d2,i3,j3,g2,g3,k3,g4,hq _ _ h⟩
  ·rintro σ H2 ⟨sm,ws,rs,fi,u1,u2,u3,u4,hL,pq,eq,fl,rfl⟩
   have dn:ks.drop kx.length=[]:=List.drop_of_length_le (by omega)
   rw [dn] at eq
   have eq:rs++[]=Lm.wo ks gs:=eq
   rw [List.append_nil] at eq
   subst eq
   refine⟨_,rfl,l,_,rfl,.inl ⟨SqL.of hL,fun r hr'=>?_⟩⟩
   exact fin r _ (s0.trans (sm.trans (aK hr'))) ⟨ws,aD,pq.same (aK hr')⟩
end
end Ls
namespace L2
open PySem PySem.Spec PyProof.Rows
theorem fY.of {X:Cx} {NB:List Str} {n:Nat} {js:List Nat} {scope:Scope} {cl:List (Str × Addr)} (clo:closureFor scope X.env=pure cl) (hsub:∀p ∈ cl,X.env.cells.lookup p.1=some p.2)
  (hhas:∀p ∈ (relabel scope X.env).names,(p.2=.cell\/p.2=.free)->(cl.lookup p.1).isSome=true) (len:NB.length=n+js.length) (nam:∀k j,js[k]?=some j->NB[n+k]?=X.N[j]?)
  (ck:∀x ∈ NB.drop n,((relabel scope X.env).names.lookup x=some .cell\/(relabel scope X.env).names.lookup x=some .free)/\(X.env.kindOf x=some .cell\/X.env.kindOf x=some .free)/\(cl.lookup x).isSome=true):fY X NB n js scope cl:=
 ⟨clo,fun x c q=>hsub (x,c) (PySem.mem_of_lookup q),fun x q=>q.elim (fun z=>hhas (x,_) (PySem.mem_of_lookup z) (.inl rfl)) fun z=>hhas (x,_) (PySem.mem_of_lookup z) (.inr rfl),len,nam,fun x _ hx=>ck x hx⟩
theorem cF {α:Type} {P:α->Prop}:∀x ∈ ([]:List α),P x:=fun x hx=>absurd hx (by simp)
theorem aQ {α:Type} {P:α->Prop} {a:α} {l:List α} (h:P a) (t:∀x ∈ l,P x):∀x ∈ a::l,P x:=fun x hx=>by
 rcases List.mem_cons.mp hx with rfl|hx
 ·exact h
 ·exact t x hx
end L2
namespace Ls
open PySem L2 PySem.W
theorem eQ {i:Nat} {v:V} {σ:St} {H:Hp} {Q:St->Hp->Prop} (h:Q (σ.set i (some v)) H):dQ i v σ H Q:=h
theorem gM {σ:St} {H:Hp} {Q:Bool->Hp->Prop} (h:Q true H):tYes σ H Q:=h
def oC (p:Int × Int):PyData:=.tuple [.int p.1,.int p.2]
def workD (ps:List (Int × Int)):PyData:=.tuple (ps.map oC)
theorem AeN {K:Frag} {H:Hp} {v:V} {p:Int × Int} (h:zX H v p):RdV K H v (oC p):=by
 obtain⟨b,rfl,q⟩:=h
 exact .tup (SqT.of q) (.cons (.int _) (.cons (.int _) .nil))
theorem qG {K:Frag} {H:Hp}:∀{xs:List V} {ps:List (Int × Int)},Paired (zX H) xs ps->gL K H xs (ps.map oC)
 | _,_,.nil=>.nil
 | _,_,.cons r t=>.cons (AeN r) (qG t)
def Gd (n:Nat) (d:PyData):Prop:=d.canLay0=true/\d.depth<=n
theorem zT:∀{ds:List PyData},(∀d ∈ ds,d.canLay0=true)->PyData.canLayAll0 ds=true
 | [],_=>by rw [PyData.canLayAll0]
 | d::ds,h=>by
  rw [PyData.canLayAll0,h d (List.mem_cons_self),zT fun e he=>h e (List.mem_cons_of_mem _ he)]
  rfl
theorem zS {n:Nat}:∀{ds:List PyData},(∀d ∈ ds,d.depth<=n)->PyData.depthAll ds<=n
 | [],_=>by rw [PyData.depthAll];exact Nat.zero_le _
 | d::ds,h=>by
  rw [PyData.depthAll]
  exact Nat.max_le.mpr ⟨h d List.mem_cons_self,zS fun e he=>h e (List.mem_cons_of_mem _ he)⟩
theorem Gd.tup {n:Nat} {ds:List PyData} (h:∀d ∈ ds,Gd n d):Gd (n+1) (.tuple ds):=by
 refine⟨?_,?_⟩
 ·rw [PyData.canLay0]
  exact zT fun d hd=>(h d hd).1
 ·rw [PyData.depth]
  exact Nat.succ_le_succ (zS fun d hd=>(h d hd).2)
theorem Gd.lst {n:Nat} {ds:List PyData} (h:∀d ∈ ds,Gd n d):Gd (n+1) (.list ds):=by
 refine⟨?_,?_⟩
 ·rw [PyData.canLay0]
  exact zT fun d hd=>(h d hd).1
 ·rw [PyData.depth]
  exact Nat.succ_le_succ (zS fun d hd=>(h d hd).2)
theorem Gd.int {n:Nat} (i:Int):Gd n (.int i):=⟨by rw [PyData.canLay0],by rw [PyData.depth];exact Nat.zero_le _⟩
theorem Gd.non {n:Nat}:Gd n .none:=⟨by rw [PyData.canLay0],by rw [PyData.depth];exact Nat.zero_le _⟩
theorem Gd.str {n:Nat} {x:Str} (h:PyData.strOk x=true):Gd n (.str x):=⟨by rw [PyData.canLay0];exact h,by rw [PyData.depth];exact Nat.zero_le _⟩
theorem Gd.mono {n m:Nat} {d:PyData} (h:Gd n d) (e:n<=m):Gd m d:=⟨h.1,Nat.le_trans h.2 e⟩
theorem Gd.shaped {n:Nat} {d:PyData} (h:Gd n d) (e:n<=64):SeqAt.shaped d=true:=by
 unfold SeqAt.shaped
 rw [h.1,decide_eq_true (Nat.le_trans h.2 e)]
 rfl
theorem rB {n:Nat}:∀d ∈ ([]:List PyData),Gd n d:=fun d h=>absurd h (by simp)
theorem dP {n:Nat} {d:PyData} {ds:List PyData} (h:Gd n d) (hs:∀e ∈ ds,Gd n e):∀e ∈ d::ds,Gd n e:=fun e he=>by
 rcases List.mem_cons.mp he with z|z
 ·rw [z];exact h
 ·exact hs e z
theorem Gd.pair (p:Int × Int):Gd 1 (oC p):=Gd.tup (dP (Gd.int _) (dP (Gd.int _) rB))
theorem AgP {n:Nat} (ps:List (Int × Int)):∀d ∈ ps.map oC,Gd (n+1) d:=fun d hd=>by
 obtain⟨p,_,rfl⟩:=List.mem_map.mp hd
 exact(Gd.pair p).mono (by omega)
theorem AgX (p:Int × Int):PyData.eqv (oC p) (oC p)=true:=by
 unfold oC
 simp [PyData.eqv,PyData.eqvAll]
def Told (H:Hp) (Q:VK) (n:Nat) (M:Int->Prop):Prop:=∀(r:Addr) (d:Lm.Ps) (H':Hp),aR H H'->dR H' r d->Lm.Sh d->(∀x,Lm.mem d x↔M x)->d.length<=n->Q (.ref r) H'
def yC:Sp:=fun vs H Q _=>∃(p q:Addr) (a b:Lm.Ps),vs=[.ref p,.ref q]/\dR H p a/\dR H q b/\Lm.Wk a/\Lm.Wk b/\a.length<=1000/\b.length<=1000/\Told H Q (a.length+b.length) fun x=>Lm.mem a x/\¬ Lm.mem b x
def spSt:Sp:=fun vs H Q _=>∃(p:Addr) (a:Lm.Ps),vs=[.ref p]/\dR H p a/\Lm.Wk a/\a.length<=1000/\Told H Q a.length fun x=>Lm.mem a x
section
variable {P:Program} {w:World} {K:PySem.W.Frag} {mg:Str->Option Value} {base:Heap}
theorem diff_of {f:Addr} {fd:FuncData} {k:Nat} (h:aJ P w K mg base CX0 k f fd ["one","other"] sI):aJ P w K mg base CX0 k f fd ["one","other"] yC:=by
 refine h.imp fun vs H Q E ⟨p,q,a,b,e,ha,hb,wa,wb,la,lb,t⟩=>⟨p,q,a,b,e,ha,hb,wa,wb,la,lb,fun r H' s hr=>?_⟩
 obtain⟨s1,m1,l1⟩:=Lm.merged_ok wa.lo
 obtain⟨s2,m2,l2⟩:=Lm.merged_ok wb.lo
 obtain⟨i1,i2,i3⟩:=Lm.wo_ok s1 s2
 have l3:=Lm.wo_len s1 s2
 exact t r _ H' s hr i1 (fun x=>by rw [i3 x,m1 x,m2 x]) (by omega)
theorem st_of {f:Addr} {fd:FuncData} {k:Nat} (h:aJ P w K mg base CX0 k f fd ["work"] oO):aJ P w K mg base CX0 k f fd ["work"] spSt:=by
 refine h.imp fun vs H Q E ⟨p,a,e,ha,wa,la,t⟩=>⟨p,a,e,ha,wa,la,fun r H' s hr=>?_⟩
 obtain⟨s1,m1,l1⟩:=Lm.merged_ok wa.lo
 exact t r _ H' s hr s1 m1 l1
def flds (pw d:Addr):List (Str × V):=dD "results" (.ref d) (dD "work" (.ref pw) [])
theorem wr:¬ ("work":Str)="results":=by decide +kernel
theorem sW (pw d:Addr):(flds pw d).lookup ("work":Str)=some (.ref pw):=by
 unfold flds
 rw [eE,if_neg wr,eE,if_pos rfl]
theorem jH (pw d:Addr):(flds pw d).lookup ("results":Str)=some (.ref d):=by
 unfold flds
 rw [eE,if_pos rfl]
theorem gQ (pw d:Addr) {m:Str} (h1:¬ m="results") (h2:¬ m="work"):(flds pw d).lookup m=none:=by
 unfold flds
 rw [eE,if_neg h1,eE,if_neg h2]
 all_goals rfl
structure cO (C:Addr) (H:Hp) (p pw d:Addr) (ws:Lm.Ps) (kvs:List (Key × V)):Prop where
 ob:∃dx,H p=some (.ins C dx (flds pw d))
 wk:dR H pw ws
 dc:H d=some (.dK kvs)
theorem cO.same {C:Addr} {H H':Hp} {p pw d:Addr} {ws:Lm.Ps} {kvs:List (Key × V)} (e:aR H H') (h:cO C H p pw d ws kvs):cO C H' p pw d ws kvs:=by
 obtain⟨⟨dx,h1⟩,h2,h3⟩:=h
 exact⟨⟨dx,e _ _ h1⟩,h2.same e,e _ _ h3⟩
structure Cl (K:PySem.W.Frag) (mg:Str->Option Value) (C:Addr):Prop where
 cl:Cls K C
 nW:NoAttr K C "work"
 nR:NoAttr K C "results"
 mgC:mg "Sheet"=some (.ref C)
def xY (C:Addr):Sp:=fun vs H Q _=>∃(p dx q:Addr) (a:Lm.Ps),vs=[.ref p,.ref q]/\H p=some (.ins C dx [])/\dR H q a/\Lm.Wk a/\a.length<=1000 /\
 ∀(pw d:Addr) (ws:Lm.Ps) (H':Hp),H d=none->cO C H' p pw d ws []->Lm.Sh ws->(∀x,Lm.mem ws x↔Lm.mem a x)->ws.length<=a.length->(∀b o,H b=some o->b≠p->H' b=some o)->Q .non H'
def tQ:Sp:=fun vs H Q _=>∃(p:Addr) (ns:List Int),vs=[.ref p]/\H p=some (.tup (ns.map V.int))/\ns.length<=1000/\∀H',aR H H'->Q (.bl true) H'
def tX (C:Addr):Sp:=fun vs H Q _=>∃(p pw d:Addr) (ws:Lm.Ps) (kvs:List (Key × V)) (i j:Int),vs=[.ref p,.int i,.int j]/\cO C H p pw d ws kvs/\ws.length<=1000/\∀H',aR H H'->Q (.bl (ws.any fun q=>decide (q.1<=i) && decide (j<=q.2))) H'
def tU (C:Addr):Sp:=fun vs H Q _=>∃(p pw d:Addr) (ws:Lm.Ps) (kvs:List (Key × V)) (ns:List Int),vs=[.ref p]/\cO C H p pw d ws kvs/\kvs.map (·.1)=ns.map Sum.inl/\ns.Nodup/\ns.length<64/\Told H Q ns.length fun x=>x ∈ ns
theorem scInit:aP ["self","work"] ["self","work"] (aH yL):=⟨rfl,rfl,rfl,by decide +kernel,rfl,by decide +kernel,by decide +kernel⟩
theorem ok_init {f fS C:Addr} {fd fdS:FuncData} (F:Fun K "__init__" "Sheet.__init__" yL f fd) (T:Cl K mg C) (GS:aJ P w K mg base CX0 5 fS fdS ["work"] spSt) (kS:keepIn K (.ref fS)=true) (bS:aO K fdS ["work"] []) (mS:mg "short_form"=some (.ref fS)):
  aJ P w K mg base CX0 6 f fd ["self","work"] (xY C):=by
 refine F.ok scInit (fun vs H Q E h=>?_) (fun cdv A outer s H vs Q E hr h=>?_)
 ·obtain⟨p,dx,q,a,rfl,_⟩:=h
  rfl
 ·obtain⟨p,dx,q,a,rfl,hp,ha,wa,la,t⟩:=h
  refine⟨_,aC (dJ (pv 0) (aL GS hr rfl mS kS bS .nil aN (aA (pv 1) aB)) rfl) (aI (dJ (pv 0) jE rfl)),?_⟩
  refine⟨_,rfl,q,a,rfl,ha,wa,la,fun r ws H1 s1 hw sh mm ll=>?_⟩
  refine⟨_,rfl,p,C,dx,[],rfl,s1 _ _ hp,T.cl,T.nW,(by show 0<1000;decide),?_⟩
  intro d hd
  have hp1:H1 p=some (.ins C dx []):=s1 _ _ hp
  have npd:p≠d:=fun z=>by
   subst z
   rw [aD] at hd
   cases hd
  have hd1:H1 d=none:=by rw [aG npd.symm] at hd;exact hd
  have hd0:H d=none:=s1.free hd1
  refine⟨_,rfl,p,C,dx,_,rfl,(by rw [aG npd];exact aD),T.cl,T.nR,(by show 1<1000;decide),?_⟩
  have hk:∀b o,H1 b=some o->b≠p->(upd (upd (upd H1 p (.ins C dx (dD "work" (.ref r) []))) d (.dK [])) p (.ins C dx (dD "results" (.ref d) (dD "work" (.ref r) [])))) b=some o:=fun b o e hb=>by
   rw [aG hb,aG (aF e hd1),aG hb]
   exact e
  refine t r d ws _ hd0 ⟨⟨dx,aD⟩,?_,by rw [aG npd.symm,aD]⟩ sh mm ll fun b o e hb=>hk b o (s1 _ _ e) hb
  obtain⟨xs,x1,x2⟩:=hw
  exact⟨xs,hk _ _ x1 (fun z=>by subst z;rw [hp1] at x1;cases x1),bY (fun v q ⟨b,z1,z2⟩=>⟨b,z1,hk _ _ z2 (fun z=>by subst z;rw [hp1] at z2;cases z2)⟩) x2⟩
theorem AcF:aP ["thing"] ["thing"] (aH qB):=⟨rfl,rfl,rfl,by decide +kernel,rfl,by decide +kernel,by decide +kernel⟩
theorem ndN:(["number"]:List Str).Nodup:=by decide +kernel
theorem zE {f fW:Addr} {fd fdW:FuncData} (F:Fun K "is_numbers" "is_numbers" qB f fd) (G:Gb mg) (GW:aJ P w K mg base CX0 1 fW fdW ["thing"] dS) (kW:keepIn K (.ref fW)=true) (bW:aO K fdW ["thing"] []) (mW:mg "is_whole"=some (.ref fW)):aJ P w K mg base CX0 2 f fd ["thing"] tQ:=by
 refine F.ok AcF (fun vs H Q E h=>?_) (fun cdv A outer s H vs Q E hr h=>?_)
 ·obtain⟨p,ns,rfl,_⟩:=h
  rfl
 ·obtain⟨p,ns,rfl,hp,ln,t⟩:=h
  refine⟨_,aI (aY (iK (aS aW (by rfl) G.isi cH (aA (pv 0) (aA (gC (v:=.ty "tuple") (by rfl) G.tuple gZ rfl) aB)))
   (iJ (aS (xF rfl) (by rfl) G.all xI (aA (oZ (NB:=["number"]) (g:=dQ 0) rfl (by decide +kernel) (by decide +kernel) (by decide +kernel) rfl (jC (pv 0)) (fun C s H fp pn=>cG (i:=0) ndN rfl (Or.inl rfl) (.inr rfl)) (fun C s H fp pn=>gN)
    (fun C s H fp pn=>aL GW hr rfl mW kW bW .nil aN (aA (pv 0) aB))) aB))))),?_⟩
  have sl:sizeLine=16777216:=sizeLine_eq
  obtain⟨ty,hty,e⟩:=iD (K:=K) hp
  refine⟨_,rfl,_,_,_,_,rfl,.ty "tuple",.inl ⟨ty,hty,e⟩,_,rfl,?_⟩
  refine eP ?_
  refine⟨_,rfl,p,rfl,⟨_,SqT.of hp⟩,fun acc hacc=>?_⟩
  have lm:(ns.map V.int).length=ns.length:=List.length_map ..
  refine⟨fun i m ys H'=>m=ns.length-i/\i<=ns.length/\ys=(List.replicate i true).map V.bl/\aR H H'/\H' acc=some (.lst ys),⟨_,rfl,Nat.zero_le _,rfl,aK hacc,aD⟩,?_⟩
  rintro i m ys H' ⟨rfl,hi,rfl,sm,hA⟩
  refine⟨hA,?_⟩
  by_cases hlt:i<ns.length
  ·refine .inr ⟨⟨_,_,SqT.of (sm _ _ hp),List.getElem?_eq_getElem (by omega)⟩,?_⟩
   rintro y H'' ⟨rfl,hy⟩
   have ey:=hy _ (SqT.of (sm _ _ hp))
   have ez:y=V.int ns[i]:=by
    rw [List.getElem?_map,List.getElem?_eq_getElem hlt] at ey
    exact(Option.some.inj ey).symm
   subst ez
   refine eQ ?_
   refine gM ?_
   refine eP ?_
   refine⟨_,rfl,_,rfl,.kn (.int _),hA,by rw [List.length_map,List.length_replicate];omega,_,?_,rfl,hlt,?_,fun b o z=>?_,aD⟩
   ·omega
   ·rw [List.replicate_succ',List.map_append]
    rfl
   ·rw [aG (aF z hacc)]
    exact sm _ _ z
  ·refine .inl ⟨⟨_,SqT.of (sm _ _ hp),by omega⟩,?_⟩
   refine⟨acc,_,rfl,SqL.of hA,?_⟩
   have ea:(List.replicate i true).all id=true:=by simp
   rw [ea]
   exact t _ sm
theorem scHolds:aP ["self","first","behind"] ["self","first","behind"] (aH uF):=⟨rfl,rfl,rfl,by decide +kernel,rfl,by decide +kernel,by decide +kernel⟩
theorem ndH:(["low","high","behind","first"]:List Str).Nodup:=by decide +kernel
theorem any_map {α β:Type} (f:α->Bool) (l:List α):((l.map f).any id)=l.any f:=by
 induction l with
 | nil=>rfl
 | cons a l ih=>rw [List.map_cons,List.any_cons,List.any_cons,ih];rfl
theorem AfU {f C:Addr} {fd:FuncData} (F:Fun K "holds_row" "Sheet.holds_row" uF f fd) (G:Gb mg) (T:Cl K mg C):aJ P w K mg base CX0 1 f fd ["self","first","behind"] (tX C):=by
 refine F.ok scHolds (fun vs H Q E h=>?_) (fun cdv A outer s H vs Q E hr h=>?_)
 ·obtain⟨p,pw,d,ws,kvs,i,j,rfl,_⟩:=h
  rfl
 ·obtain⟨p,pw,d,ws,kvs,i₀,j₀,rfl,S,lw,t⟩:=h
  refine⟨_,(aI (aY (aS (AhJ rfl) (by rfl) G.any AhN (aA (hZ (NB:=["low","high","behind","first"]) (n:=2) (js:=[2,1]) (g:=gTup K 2 (lU (dQ 0) (lU (dQ 1) gNil))) (cl:=[("first",s.heap.objs.size+1),("behind",s.heap.objs.size+1+1)]) rfl (by decide +kernel) (by decide +kernel) rfl
    (fY.of rfl (aQ rfl (aQ rfl cF)) (aQ (fun z=>nomatch z) (aQ (fun z=>nomatch z) (aQ (fun z=>nomatch z) (aQ (fun _=>rfl) (aQ (fun _=>rfl) cF))))) rfl
     (fun k j h=>match k,j,h with|0,_,rfl=>rfl|1,_,rfl=>rfl|k+2,_,h=>absurd h (by simp)) (aQ ⟨.inl rfl,.inl rfl,rfl⟩ (aQ ⟨.inl rfl,.inl rfl,rfl⟩ cF)))
    (jC (aV (pv 0) rfl)) (fun C s H fp pn=>jD (n:=2) rfl (cX (cG (i:=0) ndH rfl (Or.inl rfl) (.inr rfl)) (cX (cG (i:=1) ndH rfl (Or.inl rfl) (.inr rfl)) gB))) (fun C s H fp pn=>gN)
    (fun C s H fp pn=>iK (eJ lT (pv 0) (pv 3) (bX _)) (iJ (eJ lT (pv 2) (pv 1) (bX _))))) aB)))),?_⟩
  have sl:sizeLine=16777216:=sizeLine_eq
  obtain⟨⟨dx,h1⟩,hw,hd⟩:=id S
  obtain⟨xs,x1,x2⟩:=id hw
  have lx:xs.length=ws.length:=x2.length
  refine⟨_,rfl,p,C,dx,_,_,rfl,h1,T.cl,T.nW,sW _ _,pw,rfl,⟨_,SqT.of x1⟩,fun acc hacc=>?_⟩
  refine⟨fun i m ys H'=>m=xs.length-i/\i<=xs.length/\ys=((ws.take i).map fun q=>decide (q.1<=i₀) && decide (j₀<=q.2)).map V.bl/\aR H H'/\H' acc=some (.lst ys),⟨_,rfl,Nat.zero_le _,rfl,aK hacc,aD⟩,?_⟩
  rintro i m ys H' ⟨rfl,hi,rfl,sm,hA⟩
  refine⟨hA,?_⟩
  by_cases hlt:i<xs.length
  ·refine .inr ⟨⟨xs,_,SqT.of (sm _ _ x1),List.getElem?_eq_getElem hlt⟩,?_⟩
   rintro y H'' ⟨rfl,hy⟩
   have ey:=hy xs (SqT.of (sm _ _ x1))
   obtain⟨q,hq,b',rfl,hb'⟩:=cA x2 ey
   have fin:∀b:Bool,b=(decide (q.1<=i₀) && decide (j₀<=q.2))->((ws.take i).map fun q=>decide (q.1<=i₀) && decide (j₀<=q.2)).map V.bl++[V.bl b]=((ws.take (i+1)).map fun q=>decide (q.1<=i₀) && decide (j₀<=q.2)).map V.bl:=fun b hb=>by
    rw [List.take_add_one,hq,hb]
    simp
   refine⟨b',_,rfl,SqT.of (sm _ _ hb'),rfl,_,_,rfl,_,_,rfl,rfl,rfl,?_⟩
   refine gM ?_
   refine eP ?_
   refine⟨_,rfl,_,rfl,_,_,rfl,rfl,_,rfl,?_⟩
   refine eF (fun hc=>?_) (fun hc=>?_)
   ·have hc':q.1<=i₀:=by simpa using hc
    refine⟨_,rfl,_,rfl,_,_,rfl,rfl,hA,by rw [List.length_map,List.length_map,List.length_take];omega,_,?_,rfl,hlt,fin _ (by rw [decide_eq_true hc'];rfl),fun b o z=>?_,aD⟩
    ·omega
    ·rw [aG (aF z hacc)]
     exact sm _ _ z
   ·have hc':¬ q.1<=i₀:=by simpa using hc
    refine⟨hA,by rw [List.length_map,List.length_map,List.length_take];omega,_,?_,rfl,hlt,fin _ (by rw [decide_eq_false hc'];rfl),fun b o z=>?_,aD⟩
    ·omega
    ·rw [aG (aF z hacc)]
     exact sm _ _ z
  ·refine .inl ⟨⟨xs,SqT.of (sm _ _ x1),by omega⟩,?_⟩
   have ei:ws.take i=ws:=List.take_of_length_le (by omega)
   rw [ei] at hA
   refine⟨acc,_,rfl,SqL.of hA,?_⟩
   rw [any_map (β:=Int)]
   exact t _ sm
def wI (ns:List Int):Lm.Ps:=ns.map fun n=>(n,n+1)
theorem AgC {ns:List Int} {x:Int}:Lm.mem (wI ns) x↔x ∈ ns:=by
 constructor
 ·rintro⟨p,hp,h1,h2⟩
  obtain⟨n,hn,rfl⟩:=List.mem_map.mp hp
  have:x=n:=by
   have h1':n<=x:=h1
   have h2':x<n+1:=h2
   omega
  rw [this]
  exact hn
 ·intro h
  exact⟨(x,x+1),List.mem_map.mpr ⟨x,h,rfl⟩,Int.le_refl _,by show x<x+1;omega⟩
theorem AaA:∀{ns:List Int},ns.Nodup->ns.Pairwise (·<=·)->Lm.Wk (wI ns)
 | [],_,_=>trivial
 | n::ns,nd,pw=>by
  obtain⟨p1,p2⟩:=List.pairwise_cons.mp pw
  obtain⟨d1,d2⟩:=List.nodup_cons.mp nd
  refine⟨by show n<n+1;omega,fun q hq=>?_,AaA d2 p2⟩
  obtain⟨k,hk,rfl⟩:=List.mem_map.mp hq
  have h1:=p1 k hk
  have h2:n≠k:=fun z=>d1 (by rw [z];exact hk)
  show n+1<=k
  omega
theorem ndP:(["place"]:List Str).Nodup:=by decide +kernel
def pP (C:Addr):Sp:=fun vs H Q _=>∃(p pw d:Addr) (ws:Lm.Ps) (kvs:List (Key × V)) (ns:List Int),vs=[.ref p]/\cO C H p pw d ws kvs/\Lm.Sh ws/\ws.length<=64/\kvs.map (·.1)=ns.map Sum.inl/\ns.Nodup/\ns.length<64/\Told H Q (ws.length+ns.length) fun x=>Lm.mem ws x/\¬ x ∈ ns
theorem scLaid:aP ["self"] ["self"] (aH yK):=⟨rfl,rfl,rfl,by decide +kernel,rfl,by decide +kernel,by decide +kernel⟩
theorem ok_laid {f fS C:Addr} {fd fdS:FuncData} (F:Fun K "laid_work" "Sheet.laid_work" yK f fd) (G:Gb mg) (T:Cl K mg C) (GS:aJ P w K mg base CX0 5 fS fdS ["work"] spSt) (kS:keepIn K (.ref fS)=true) (bS:aO K fdS ["work"] []) (mS:mg "short_form"=some (.ref fS)):
  aJ P w K mg base CX0 6 f fd ["self"] (tU C):=by
 refine F.ok scLaid (fun vs H Q E h=>?_) (fun cdv A outer s H vs Q E hr h=>?_)
 ·obtain⟨p,pw,d,ws,kvs,ns,rfl,_⟩:=h
  rfl
 ·obtain⟨p,pw,d,ws,kvs,ns,rfl,S,hk,nd,l64,t⟩:=h
  refine⟨_,(aI (aY (aL GS hr rfl mS kS bS .nil aN (aA (dU dW (by rfl) G.tuple gZ (aA (oZ (NB:=["place"]) (g:=dQ 0) rfl (by decide +kernel) (by decide +kernel) (by decide +kernel) rfl
    (oX (aS (vC rfl) (by rfl) G.sorted xH (aA (aV (pv 0) rfl) aB))) (fun C s H fp pn=>cG (i:=0) ndP rfl (Or.inl rfl) (.inr rfl)) (fun C s H fp pn=>gN)
    (fun C s H fp pn=>cC (aA (pv 0) (aA (bU dG (pv 0) aE) aB)))) aB)) aB)))),?_⟩
  have sl:sizeLine=16777216:=sizeLine_eq
  obtain⟨⟨dx,h1⟩,hw,hd⟩:=id S
  refine⟨_,rfl,p,C,dx,_,_,rfl,h1,T.cl,T.nR,jH _ _,d,kvs,ns,rfl,hd,hk,l64,fun l ns' hl pm pw'=>?_⟩
  have s0:aR H (upd H l (.lst (ns'.map V.int))):=aK hl
  have e0:(upd H l (.lst (ns'.map V.int))) l=some (.lst (ns'.map V.int)):=aD
  generalize upd H l (.lst (ns'.map V.int))=H1 at s0 e0 ⊢
  have ln:ns'.length=ns.length:=pm.length_eq
  have lm:(ns'.map V.int).length=ns'.length:=List.length_map ..
  refine⟨l,rfl,⟨_,SqL.of e0⟩,fun acc hacc=>?_⟩
  have nla:l≠acc:=aF e0 hacc
  refine⟨fun i m ys H'=>m=ns'.length-i/\i<=ns'.length/\cZ H' ys (wI (ns'.take i))/\aR H1 H'/\H' acc=some (.lst ys),⟨_,rfl,Nat.zero_le _,.nil,aK hacc,aD⟩,?_⟩
  rintro i m ys H' ⟨rfl,hi,hP,sm,hA⟩
  refine⟨hA,?_⟩
  have ly:ys.length=i:=by
   have:=hP.length
   unfold wI at this
   rw [List.length_map,List.length_take] at this
   omega
  by_cases hlt:i<ns'.length
  ·refine .inr ⟨⟨_,_,SqL.of (sm _ _ e0),List.getElem?_eq_getElem (by omega)⟩,?_⟩
   rintro y H'' ⟨rfl,hy⟩
   have ey:=hy _ (SqL.of (sm _ _ e0))
   have ez:y=V.int ns'[i]:=by
    rw [List.getElem?_map,List.getElem?_eq_getElem hlt] at ey
    exact(Option.some.inj ey).symm
   subst ez
   refine eQ ?_
   refine gM ?_
   refine eP ?_
   refine⟨_,rfl,_,rfl,_,_,rfl,rfl,by show 2<=sizeLine;decide,fun t' ht=>?_⟩
   have nt:acc≠t':=aF hA ht
   refine⟨by rw [aG nt];exact hA,by omega,_,?_,rfl,hlt,?_,fun b o z=>?_,aD⟩
   ·omega
   ·unfold wI
    rw [List.take_add_one,List.getElem?_eq_getElem hlt,List.map_append]
    exact dB (bY (fun v q ⟨b,z1,z2⟩=>⟨b,z1,by rw [aG (aX z2 hA (by intro z;cases z)),aG (aF z2 ht)];exact z2⟩) hP) ⟨t',rfl,by rw [aG nt.symm];exact aD⟩
   ·rw [aG (aF z hacc),aG (aF (sm _ _ z) ht)]
    exact sm _ _ z
  ·refine .inl ⟨⟨_,SqL.of (sm _ _ e0),by omega⟩,?_⟩
   have ei:ns'.take i=ns':=List.take_of_length_le (by omega)
   rw [ei] at hP
   refine⟨acc,_,rfl,.inl ⟨SqL.of hA,fun r hr'=>?_⟩⟩
   have lo:(wI ns').length=ns.length:=by unfold wI;rw [List.length_map];exact ln
   have sA:aR H (upd H' r (.tup ys)):=s0.trans (sm.trans (aK hr'))
   refine⟨r,wI ns',rfl,⟨ys,aD,hP.same (aK hr')⟩,AaA (pm.nodup_iff.mpr nd) pw',by omega,fun r2 d2 H2 s2 hr2 sd md ld=>?_⟩
   exact t r2 d2 H2 (sA.trans s2) hr2 sd (fun x=>(md x).trans (AgC.trans pm.mem_iff)) (by omega)
theorem scLeft:aP ["self"] ["self"] (aH yJ):=⟨rfl,rfl,rfl,by decide +kernel,rfl,by decide +kernel,by decide +kernel⟩
theorem ok_left {f fW fL C:Addr} {fd fdW fdL:FuncData} (F:Fun K "left_work" "Sheet.left_work" yJ f fd) (T:Cl K mg C) (GW:aJ P w K mg base CX0 6 fW fdW ["one","other"] yC) (kW:keepIn K (.ref fW)=true) (bW:aO K fdW ["one","other"] []) (mW:mg "without"=some (.ref fW))
  (GL:aJ P w K mg base CX0 6 fL fdL ["self"] (tU C)) (bL:aO K fdL ["self"] []) (mL:dE K C "laid_work" fL):aJ P w K mg base CX0 7 f fd ["self"] (pP C):=by
 refine F.ok scLeft (fun vs H Q E h=>?_) (fun cdv A outer s H vs Q E hr h=>?_)
 ·obtain⟨p,pw,d,ws,kvs,ns,rfl,_⟩:=h
  rfl
 ·obtain⟨p,pw,d,ws,kvs,ns,rfl,S,sh,lw,hk,nd,l64,t⟩:=h
  refine⟨_,(aI (aY (aL GW hr rfl mW kW bW .nil aN (aA (aV (pv 0) rfl) (aA (cM (pv 0) T.cl mL GL hr bL .nil aN) aB))))),?_⟩
  obtain⟨⟨dx,h1⟩,hw,hd⟩:=id S
  refine⟨_,rfl,p,C,dx,_,_,rfl,h1,T.cl,T.nW,sW _ _,_,rfl,p,dx,_,rfl,h1,gQ _ _ (by decide +kernel) (by decide +kernel),p,pw,d,ws,kvs,ns,rfl,S,hk,nd,l64,fun r d1 H1 s1 hr1 sd md ld=>?_⟩
  refine⟨pw,r,ws,d1,rfl,hw.same s1,hr1,sh.wk,sd.wk,by omega,by omega,fun r2 d2 H2 s2 hr2 sd2 md2 ld2=>?_⟩
  exact t r2 d2 H2 (s1.trans s2) hr2 sd2 (fun x=>(md2 x).trans (and_congr Iff.rfl (not_congr (md x)))) (by omega)
def row (vf:Int->Int) (l:Int) (n:Nat):List V:=((List.range n).map fun(i:Nat)=>vf (l+(i:Int))).map V.int
theorem row_len (vf:Int->Int) (l:Int) (n:Nat):(row vf l n).length=n:=by
 unfold row
 rw [List.length_map,List.length_map,List.length_range]
theorem AeM (vf:Int->Int) (l:Int) (n:Nat):row vf l (n+1)=row vf l n++[V.int (vf (l+(n:Int)))]:=by
 unfold row
 rw [List.range_succ,List.map_append,List.map_append]
 rfl
theorem cover:∀(n:Nat) (l:Int) (ns:List Int),(∀i:Nat,i<n->l+(i:Int) ∈ ns)->n<=ns.length
 | 0,_,_,_=>Nat.zero_le _
 | n+1,l,ns,h=>by
  have hm:=h n (by omega)
  have h1:=cover n l (ns.erase (l+(n:Int))) fun i hi=>(List.mem_erase_of_ne (by omega)).mpr (h i (by omega))
  rw [List.length_erase_of_mem hm] at h1
  have:=List.length_pos_of_mem hm
  omega
def oA (vf:Int->Int) (H:Hp) (v:V) (q:Int × Int):Prop:=∃b c,v=.ref b/\H b=some (.tup [.int q.1,.ref c])/\H c=some (.tup (row vf q.1 (q.2-q.1).toNat))
theorem oA.same {vf:Int->Int} {H H':Hp} {v:V} {q:Int × Int} (e:aR H H') (h:oA vf H v q):oA vf H' v q:=by
 obtain⟨b,c,z1,z2,z3⟩:=h
 exact⟨b,c,z1,e _ _ z2,e _ _ z3⟩
structure Holds (vf:Int->Int) (kvs:List (Key × V)) (ns:List Int):Prop where
 key:kvs.map (·.1)=ns.map Sum.inl
 nd:ns.Nodup
 len:ns.length<64
 val:∀x ∈ ns,dY kvs (Sum.inl x:Key)=some (.int (vf x))
 lo:∀x ∈ ns,-(2 ^ 61)<=x/\x<2 ^ 61
def sL (vf:Int->Int) (C:Addr):Sp:=fun vs H Q _=>∃(p pw d:Addr) (ws:Lm.Ps) (kvs:List (Key × V)) (l h:Int),vs=[.ref p,.int l,.int h]/\cO C H p pw d ws kvs/\(∀x,l<=x->x<h->dY kvs (Sum.inl x:Key)=some (.int (vf x))) /\
 -(2 ^ 62)<=l/\l<h/\h<2 ^ 62/\h-l<=1000/\∀r H',aR H H'->H' r=some (.tup (row vf l (h-l).toNat))->Q (.ref r) H'
def vP (vf:Int->Int) (C:Addr):Sp:=fun vs H Q _=>∃(p pw d:Addr) (ws:Lm.Ps) (kvs:List (Key × V)) (ns:List Int),vs=[.ref p]/\cO C H p pw d ws kvs/\Holds vf kvs ns /\
 ∀(r:Addr) (ds:Lm.Ps) (xs:List V) (H':Hp),aR H H'->H r=none->H' r=some (.lst xs)->Paired (oA vf H') xs ds->Lm.Sh ds->(∀x,Lm.mem ds x↔x ∈ ns)->ds.length<=ns.length->Q (.ref r) H'
theorem AcG:aP ["self","low","high"] ["self","low","high"] (aH mX):=⟨rfl,rfl,rfl,by decide +kernel,rfl,by decide +kernel,by decide +kernel⟩
theorem ndPS:(["place","self"]:List Str).Nodup:=by decide +kernel
theorem zH {f C:Addr} {fd:FuncData} (vf:Int->Int) (F:Fun K "numbers_between" "Sheet.numbers_between" mX f fd) (G:Gb mg) (T:Cl K mg C):aJ P w K mg base CX0 1 f fd ["self","low","high"] (sL vf C):=by
 refine F.ok AcG (fun vs H Q E h=>?_) (fun cdv A outer s H vs Q E hr h=>?_)
 ·obtain⟨p,pw,d,ws,kvs,l,h,rfl,_⟩:=h
  rfl
 ·obtain⟨p,pw,d,ws,kvs,lo,hi,rfl,S,hv,b1,b2,b3,b4,t⟩:=h
  have hu:=hu_of hr
  refine⟨_,(aI (aY (dU dW (by rfl) G.tuple gZ (aA (hZ (NB:=["place","self"]) (n:=1) (js:=[0]) (g:=dQ 0) (te:=tDGet (tFld K (iE 1) "results") (iE 0)) (cl:=[("self",s.heap.objs.size+1)]) rfl (by decide +kernel) (by decide +kernel) rfl
    (fY.of rfl (aQ rfl cF) (aQ (fun z=>nomatch z) (aQ (fun z=>nomatch z) (aQ (fun _=>rfl) cF))) rfl
     (fun k j h=>match k,j,h with|0,_,rfl=>rfl|k+1,_,h=>absurd h (by simp)) (aQ ⟨.inl rfl,.inl rfl,rfl⟩ cF))
    (jQ rfl G.range (aA (pv 1) (aA (pv 2) aB))) (fun C s H fp pn=>cG (i:=0) ndPS rfl (Or.inl rfl) (.inr rfl)) (fun C s H fp pn=>gN)
    (fun C s H fp pn=>AaW (by exact hu) (aV (pv 1) rfl) (pv 0) (fun _ _=>rfl))) aB)))),?_⟩
  have sl:sizeLine=16777216:=sizeLine_eq
  obtain⟨⟨dx,h1⟩,hw,hd⟩:=id S
  refine⟨_,rfl,_,rfl,lo,hi,rfl,⟨b1,by omega,by omega,b3⟩,fun acc hacc=>?_⟩
  refine⟨fun i m ys H'=>m=(hi-lo).toNat-i/\i<=(hi-lo).toNat/\ys=row vf lo i/\aR H H'/\H' acc=some (.lst ys),⟨_,rfl,Nat.zero_le _,rfl,aK hacc,aD⟩,?_⟩
  rintro i m ys H' ⟨rfl,hi',rfl,sm,hA⟩
  refine⟨hA,?_⟩
  by_cases hlt:i<(hi-lo).toNat
  ·refine .inr ⟨hlt,?_⟩
   rintro y H'' ⟨rfl,rfl⟩
   refine eQ ?_
   refine⟨rfl,?_⟩
   refine gM ?_
   refine eP ?_
   have ev:=hv (lo+i) (by omega) (by omega)
   have dg:jX H'' d (.int (lo+i)) (some (.int (vf (lo+i)))):=by
    have:=jX.k (k:=(Sum.inl (lo+i):Key)) (sm _ _ hd)
    rw [ev] at this
    exact this
   refine⟨_,rfl,p,C,dx,_,_,rfl,sm _ _ h1,T.cl,T.nR,jH _ _,_,rfl,d,_,rfl,dg,hA,by rw [row_len];omega,_,?_,rfl,hlt,?_,fun b o z=>?_,aD⟩
   ·omega
   ·rw [AeM]
   ·rw [aG (aF z hacc)]
    exact sm _ _ z
  ·refine .inl ⟨by show (hi-lo).toNat<=i;omega,?_⟩
   have ei:i=(hi-lo).toNat:=by omega
   rw [ei] at hA
   refine⟨acc,_,rfl,.inl ⟨SqL.of hA,fun r hr'=>?_⟩⟩
   exact t r _ (sm.trans (aK hr')) aD
theorem scAll:aP ["self"] ["self"] (aH sSAll):=⟨rfl,rfl,rfl,by decide +kernel,rfl,by decide +kernel,by decide +kernel⟩
theorem ndLS:(["low","high","self"]:List Str).Nodup:=by decide +kernel
theorem ok_all {f fL fB C:Addr} {fd fdL fdB:FuncData} (vf:Int->Int) (F:Fun K "all_results" "Sheet.all_results" sSAll f fd) (G:Gb mg) (T:Cl K mg C) (GL:aJ P w K mg base CX0 6 fL fdL ["self"] (tU C)) (bL:aO K fdL ["self"] []) (mL:dE K C "laid_work" fL)
  (GB:aJ P w K mg base CX0 1 fB fdB ["self","low","high"] (sL vf C)) (bB:aO K fdB ["self","low","high"] []) (mB:dE K C "numbers_between" fB):aJ P w K mg base CX0 7 f fd ["self"] (vP vf C):=by
 refine F.ok scAll (fun vs H Q E h=>?_) (fun cdv A outer s H vs Q E hr h=>?_)
 ·obtain⟨p,pw,d,ws,kvs,ns,rfl,_⟩:=h
  rfl
 ·obtain⟨p,pw,d,ws,kvs,ns,rfl,S,hh,t⟩:=h
  have hr1:Room 1 _:=hr.mono (by decide)
  refine⟨_,(aI (aY (hZ (NB:=["low","high","self"]) (n:=2) (js:=[0]) (g:=gTup K 2 (lU (dQ 0) (lU (dQ 1) gNil))) (cl:=[("self",s.heap.objs.size+1)]) rfl (by decide +kernel) (by decide +kernel) rfl
    (fY.of rfl (aQ rfl cF) (aQ (fun z=>nomatch z) (aQ (fun z=>nomatch z) (aQ (fun z=>nomatch z) (aQ (fun _=>rfl) cF)))) rfl
     (fun k j h=>match k,j,h with|0,_,rfl=>rfl|k+1,_,h=>absurd h (by simp)) (aQ ⟨.inl rfl,.inl rfl,rfl⟩ cF))
    (jC (cM (pv 0) T.cl mL GL hr bL .nil aN)) (fun C s H fp pn=>jD (n:=2) rfl (cX (cG (i:=0) ndLS rfl (Or.inl rfl) (.inr rfl)) (cX (cG (i:=1) ndLS rfl (Or.inl rfl) (.inr rfl)) gB))) (fun C s H fp pn=>gN)
    (fun C s H fp pn=>cC (aA (pv 0) (aA (cU (pv 2) T.cl mB GB hr1 bB .nil aN (aA (pv 0) (aA (pv 1) aB))) aB)))))),?_⟩
  have sl:sizeLine=16777216:=sizeLine_eq
  obtain⟨⟨dx,h1⟩,hw,hd⟩:=id S
  refine⟨_,rfl,p,dx,_,rfl,h1,gQ _ _ (by decide +kernel) (by decide +kernel),p,pw,d,ws,kvs,ns,rfl,S,hh.key,hh.nd,hh.len,fun r ds H1 s1 hr1' sd md ld=>?_⟩
  obtain⟨xs,x1,x2⟩:=id hr1'
  have hlen:=hh.len
  have lx:xs.length=ds.length:=x2.length
  refine⟨r,rfl,⟨_,SqT.of x1⟩,fun acc hacc=>?_⟩
  have hacc0:H acc=none:=s1.free hacc
  refine⟨fun i m ys H'=>m=xs.length-i/\i<=xs.length/\Paired (oA vf H') ys (ds.take i)/\aR H1 H'/\H' acc=some (.lst ys),⟨_,rfl,Nat.zero_le _,.nil,aK hacc,aD⟩,?_⟩
  rintro i m ys H' ⟨rfl,hi,hP,sm,hA⟩
  refine⟨hA,?_⟩
  have ly:ys.length=i:=by
   have:=hP.length
   rw [List.length_take] at this
   omega
  by_cases hlt:i<xs.length
  ·refine .inr ⟨⟨xs,_,SqT.of (sm _ _ x1),List.getElem?_eq_getElem hlt⟩,?_⟩
   rintro y H'' ⟨rfl,hy⟩
   have ey:=hy xs (SqT.of (sm _ _ x1))
   obtain⟨q,hq,b',rfl,hb'⟩:=cA x2 ey
   have hqm:q ∈ ds:=List.mem_of_getElem? hq
   have qlt:q.1<q.2:=sd.lt q hqm
   have qns:∀x,q.1<=x->x<q.2->x ∈ ns:=fun x z1 z2=>(md x).mp ⟨q,hqm,z1,z2⟩
   have cv:=cover (q.2-q.1).toNat q.1 ns fun i hi=>qns _ (by omega) (by omega)
   have q1:=hh.lo _ (qns q.1 (by omega) qlt)
   have q2:=hh.lo _ (qns (q.2-1) (by omega) (by omega))
   refine⟨b',_,rfl,SqT.of (sm _ _ hb'),rfl,_,_,rfl,_,_,rfl,rfl,rfl,?_⟩
   refine gM ?_
   refine eP ?_
   have S':=S.same (s1.trans sm)
   refine⟨_,rfl,_,rfl,p,dx,_,rfl,sm _ _ (s1 _ _ h1),gQ _ _ (by decide +kernel) (by decide +kernel),_,rfl,_,rfl,p,pw,d,ws,kvs,q.1,q.2,rfl,S',fun x z1 z2=>hh.val x (qns x z1 z2),by omega,qlt,by omega,by omega,fun c H2 s2 hc=>?_⟩
   refine⟨by show 2<=sizeLine;decide,fun t' ht=>?_⟩
   have hA2:H2 acc=some (.lst ys):=s2 _ _ hA
   have nt:acc≠t':=aF hA2 ht
   have nc:c≠acc:=aX hc hA2 (by intro z;cases z)
   have st:aR H2 (upd H2 t' (.tup [.int q.1,.ref c])):=aK ht
   have keep:∀b xs',H2 b=some (.tup xs')->(upd (upd H2 t' (.tup [.int q.1,.ref c])) acc (.lst (ys++[.ref t']))) b=some (.tup xs'):=fun b xs' e=>by
    rw [aG (aX e hA2 (by intro z;cases z))]
    exact st _ _ e
   refine⟨by rw [aG nt];exact hA2,by omega,_,?_,rfl,hlt,?_,fun b o z=>?_,aD⟩
   ·omega
   ·rw [List.take_add_one,hq]
    exact dB (bY (fun v q ⟨b,c,z1,z2,z3⟩=>⟨b,c,z1,keep _ _ (s2 _ _ z2),keep _ _ (s2 _ _ z3)⟩) hP) ⟨t',c,rfl,by rw [aG nt.symm];exact aD,keep _ _ hc⟩
   ·rw [aG (aF z hacc),aG (aF (s2 _ _ (sm _ _ z)) ht)]
    exact s2 _ _ (sm _ _ z)
  ·refine .inl ⟨⟨xs,SqT.of (sm _ _ x1),by omega⟩,?_⟩
   have ei:ds.take i=ds:=List.take_of_length_le (by omega)
   rw [ei] at hP
   exact t acc ds ys H' (s1.trans sm) hacc0 hA hP sd md ld
end
end Ls
namespace L2
open PySem PySem.Spec PyProof.Rows
theorem Fun.okE {P:Program} {w:World} {K:PySem.W.Frag} {mg:Str->Option Value} {base:Heap} {x qual:Str} {st:Stmt} {f:Addr} {fd:FuncData} {N ps:List Str} {k:Nat} {sp:Sp} (F:Fun K x qual st f fd) (S:aP N ps (aH st)) (len:∀vs H Q E,sp vs H Q E->vs.length=ps.length)
  (hbody:∀(cdv:Value) (A:Around) (outer:List Env) (s:Shared) (H:Hp) (vs:List V) (Q:VK) (E:XK),Room k (A.deeper (envOfC qual (aH st) s.heap.objs.size f cdv))->sp vs H Q E ->
   ∃t,PSs (jV (CXE P w) P w K mg base N qual (aH st) f cdv A outer s H E) (cS st) t/\t { nx:=fun _ H'=>Q .non H',rt:=Q } (dI N vs) H):aJ P w K mg base (CXE P w) (k+1) f fd ps sp:=by
 obtain⟨oc,od,kV,doc,pm,an,cdv,ct,osl,rfl,lk,hcd⟩:=F.ex
 exact fn_of lk hcd S len fun A outer s H vs Q E hr hsp=>hbody cdv A outer s H vs Q E hr hsp
theorem wW {K:PySem.W.Frag} {a:Addr} {d:Int} {xs:List V} {g:TG} {tb:TS} {D:jI} {σ:St} {H:Hp} (Pv:Nat->St->Hp->Prop) (h0:Pv 0 σ H) (hl:∀i σ H,i<=xs.length->Pv i σ H->SqT K H a xs)
  (hs:∀i x σ H t,xs[i]?=some x->Pv i σ H->H t=none->g (.ref t) σ (upd H t (.tup [.int (d+i),x])) fun σ2 H2=>tb { D with nx:=Pv (i+1),ct:=Pv (i+1),bk:=D.nx } σ2 H2) (hd:∀ σ H,Pv xs.length σ H->D.nx σ H):
  ∃W:Nat->Nat->St->Hp->Prop,(∃m,W 0 m σ H)/\∀i m σ H,W i m σ H ->
   ((Ite K a d).stop i H/\D.nx σ H)\/((Ite K a d).go i H/\∃N:St->Hp->Prop,(∀ σ' H',N σ' H'->∃m',m'<m/\W (i+1) m' σ' H')/\∀x H',(Ite K a d).yld i H x H'->g x σ H' fun σ2 H2=>tb { D with nx:=N,ct:=N,bk:=D.nx } σ2 H2):=by
 refine⟨fun i m σ H=>m=xs.length-i/\i<=xs.length/\Pv i σ H,⟨xs.length,by simp,Nat.zero_le _,h0⟩,?_⟩
 rintro i m σ H ⟨rfl,hi,p⟩
 have q:=hl i σ H hi p
 by_cases hlt:i<xs.length
 ·refine .inr ⟨⟨xs,xs[i],q,by simp [hlt]⟩,Pv (i+1),fun σ' H' p'=>⟨xs.length-(i+1),by omega,rfl,hlt,p'⟩,fun x H' y=>?_⟩
  obtain⟨t,v,ht,rfl,rfl,y⟩:=y
  exact hs i v σ _ t (y xs q) p ht
 ·have e:i=xs.length:=by omega
  subst e
  exact .inl ⟨⟨xs,q,Nat.le_refl _⟩,hd σ H p⟩
end L2
namespace Ls
open PySem L2 PySem.W
def nU (l:Int) (ns:List Int) (i:Nat):List (Key × V):=(List.range i).map fun(k:Nat)=>((Sum.inl (l+(k:Int)):Key),V.int (ns.getD k 0))
theorem AhB (l:Int) (ns:List Int) (i:Nat):(nU l ns i).length=i:=by
 unfold nU
 rw [List.length_map,List.length_range]
theorem AdL (l:Int) (ns:List Int) (i:Nat):nU l ns (i+1)=nU l ns i++[(Sum.inl (l+(i:Int)),V.int (ns.getD i 0))]:=by
 unfold nU
 rw [List.range_succ,List.map_append]
 rfl
theorem jJ {kvs:List (Key × V)} {k:Key}:dY kvs k=none↔∀e ∈ kvs,e.1≠k:=by
 unfold dY
 rw [Option.map_eq_none_iff,List.find?_eq_none]
 constructor
 ·intro h e he z
  exact h e he (by rw [z];simp)
 ·intro h e he z
  exact h e he (of_decide_eq_true z)
theorem AhA {kvs:List (Key × V)} {l:Int} {ns:List Int} {i:Nat} (h:dY kvs (Sum.inl (l+(i:Int)):Key)=none):dY (kvs++nU l ns i) (Sum.inl (l+(i:Int)):Key)=none:=by
 rw [jJ] at h ⊢
 intro e he
 rcases List.mem_append.mp he with z|z
 ·exact h e z
 ·obtain⟨k,hk,rfl⟩:=List.mem_map.mp z
  intro z
  have:=Sum.inl.inj z
  have:=List.mem_range.mp hk
  omega
structure Tw (K:Frag) (mg:Str->Option Value) (CT:Addr):Prop where
 mT:mg "Twice"=some (.ref CT)
 ex:ExcIs K CT
def spLay (C CT:Addr):Sp:=fun vs H Q E=>∃(p pw d t:Addr) (ws:Lm.Ps) (kvs:List (Key × V)) (l:Int) (ns:List Int),vs=[.ref p,.int l,.ref t]/\cO C H p pw d ws kvs/\H t=some (.tup (ns.map V.int))/\ws.length<=1000/\ns.length<=1000/\kvs.length<=1000 /\
 -(2 ^ 61)<=l/\l+ns.length<=2 ^ 61/\(∃q ∈ ws,q.1<=l/\l+ns.length<=q.2) /\
 ((∀i:Nat,i<ns.length->dY kvs (Sum.inl (l+(i:Int)):Key)=none)->∀H',H' d=some (.dK (kvs++nU l ns ns.length))->(∀b o,H b=some o->b≠d->H' b=some o)->Q .non H') /\
 ((∃i:Nat,i<ns.length/\dY kvs (Sum.inl (l+(i:Int)):Key)≠none)->∀H',aR H H'->E (.ref CT) none H')
theorem AbK {d:Int} (h1:-(2 ^ 61)<=d) (h2:d<=2 ^ 61):Builtin.SmallTypes.fitsIndex d=true:=by
 unfold Builtin.SmallTypes.fitsIndex
 rw [Bool.and_eq_true]
 exact⟨decide_eq_true (by omega),decide_eq_true (by omega)⟩
section
variable {P:Program} {w:World} {K:PySem.W.Frag} {mg:Str->Option Value} {base:Heap}
theorem AaN:aP ["self","place","numbers","at","number"] ["self","place","numbers"] (aH sSLay):=⟨rfl,rfl,rfl,by decide +kernel,rfl,by decide +kernel,by decide +kernel⟩
theorem ok_lay {f C CT fW fN fH:Addr} {fd fdW fdN fdH:FuncData} (F:Fun K "lay" "Sheet.lay" sSLay f fd) (G:Gb mg) (T:Cl K mg C) (TW:Tw K mg CT)
  (GW:aJ P w K mg base CX0 1 fW fdW ["thing"] dS) (kW:keepIn K (.ref fW)=true) (bW:aO K fdW ["thing"] []) (mW:mg "is_whole"=some (.ref fW))
  (GN:aJ P w K mg base CX0 2 fN fdN ["thing"] tQ) (kN:keepIn K (.ref fN)=true) (bN:aO K fdN ["thing"] []) (mN:mg "is_numbers"=some (.ref fN))
  (GH:aJ P w K mg base CX0 1 fH fdH ["self","first","behind"] (tX C)) (bH:aO K fdH ["self","first","behind"] []) (mH:dE K C "holds_row" fH):aJ P w K mg base (CXE P w) 3 f fd ["self","place","numbers"] (spLay C CT):=by
 refine F.okE AaN (fun vs H Q E h=>?_) (fun cdv A outer s H vs Q E hr h=>?_)
 ·obtain⟨p,pw,d,t,ws,kvs,l,ns,rfl,_⟩:=h
  rfl
 ·obtain⟨p,pw,d,t,ws,kvs,l,ns,rfl,S,ht,lw,ln,lk,b1,b2,⟨q,hq,q1,q2⟩,yes,no⟩:=h
  have hu:=hu_of hr
  have hr1:Room 1 _:=hr.mono (by decide)
  refine⟨_,aC (cJ (PW.pt (gH (dA (cW (aL GW hr1 rfl mW kW bW .nil aN (aA (pv 1) aB)))) (eT (dA (cW (aL GN hr rfl mN kN bN .nil aN (aA (pv 2) aB))))))) (aI qJ) bV)
   (aC (cJ (PW.pt (kR (hX (pv 2) (fun _=>rfl)) (iI (dA (cW (cU (pv 0) T.cl mH GH hr1 bH .nil aN (aA (pv 1) (aA (bU dG (pv 1) (aS cR (by rfl) G.len PySem.boot_len (aA (pv 2) aB))) aB)))))))) (aI qJ) bV)
   (aC (eU PassesOwn.leaving rfl (jQ rfl G.range (aA (pv 1) (aA (bU dG (pv 1) (aS cR (by rfl) G.len PySem.boot_len (aA (pv 2) aB))) aB))) (cG (i:=3) AaN.nd rfl (Or.inl rfl))
    (aI (cJ (AeR (pc_din hu (pv 3) (aV (pv 0) rfl))) (aI (qI rfl TW.ex rfl TW.mT jB (aA aZ aB))) bV)))
   (aI (eU PassesOwn.leaving rfl (AaU (by rfl) G.enum sX (aA (pv 2) aB) (oW (pv 1) uO)) (jD (n:=2) rfl (cX (cG (i:=3) AaN.nd rfl (Or.inl rfl)) (cX (cG (i:=4) AaN.nd rfl (Or.inl rfl)) gB)))
    (aI (AaT hu (aV (pv 0) rfl) (pv 3) (pv 4) rfl)))))),?_⟩
  have sl:sizeLine=16777216:=sizeLine_eq
  have lm:(ns.map V.int).length=ns.length:=List.length_map ..
  refine⟨_,rfl,_,rfl,.kn (.int _),_,rfl,dH ?_⟩
  refine⟨_,rfl,t,ns,rfl,ht,ln,fun H1 s1=>⟨_,rfl,dH ?_⟩⟩
  have S1:=S.same s1
  obtain⟨⟨dx,h1⟩,hw,hd⟩:=id S1
  have ht1:H1 t=some (.tup (ns.map V.int)):=s1 _ _ ht
  refine⟨_,rfl,!(ns.map V.int).isEmpty,.inr (.inl ⟨_,SqT.of ht1,rfl⟩),?_⟩
  have any_ok:(ws.any fun q=>decide (q.1<=l) && decide (l+(((ns.map V.int).length:Nat):Int)<=q.2))=true:=List.any_eq_true.mpr ⟨q,hq,by rw [decide_eq_true q1,decide_eq_true (by rw [lm];exact q2)];rfl⟩
  refine eF (fun hc=>?_) (fun hc=>?_)
  refine⟨_,rfl,p,dx,_,rfl,h1,gQ _ _ (by decide +kernel) (by decide +kernel),_,rfl,_,rfl,_,rfl,t,_,rfl,.inr (SqT.of ht1),_,_,rfl,rfl,p,pw,d,ws,kvs,l,_,rfl,S1,lw,fun H2 s2=>⟨_,rfl,?_⟩⟩
  rw [any_ok]
  refine dH ?_
  have s02:=s1.trans s2
  rotate_left
  refine dH ?_
  have s02:=s1
  all_goals
   have gt:=s02 _ _ ht
   refine⟨_,rfl,_,rfl,_,rfl,t,_,rfl,.inr (SqT.of gt),_,_,rfl,rfl,l,_,rfl,⟨by omega,by omega,by rw [lm];omega,by rw [lm];omega⟩,iC (lo:=l) (n:=(l+(((ns.map V.int).length:Nat):Int)-l).toNat)
    (fun i σ H3=>aR H H3/\(∃v,σ=[some (.ref p),some (.int l),some (.ref t),v,none])/\∀j:Nat,j<i->dY kvs (Sum.inl (l+(j:Int)):Key)=none) ⟨s02,⟨_,rfl⟩,fun j hj=>absurd hj (Nat.not_lt_zero _)⟩ ?_ ?_⟩
   ·rintro i σ H3 hi ⟨sm,⟨v,rfl⟩,hall⟩
    rw [lm] at hi
    obtain⟨⟨dx3,g1⟩,gw,gd⟩:=S.same sm
    refine⟨_,rfl,_,rfl,p,C,dx3,_,_,rfl,g1,T.cl,T.nR,jH _ _,d,_,rfl,jX.k (k:=Sum.inl (l+(i:Int))) gd,_,rfl,?_⟩
    cases e:dY kvs (Sum.inl (l+(i:Int)):Key) with
    | some v=>
     refine eP ?_
     exact⟨by show 1<=sizeLine;decide,no ⟨i,by omega,by rw [e];simp⟩ _ sm⟩
    | none=>
     refine dH ?_
     refine⟨sm,⟨_,rfl⟩,fun j hj=>?_⟩
     by_cases hji:j<i
     ·exact hall j hji
     ·have:j=i:=by omega
      rw [this]
      exact e
   ·rintro σ H3 ⟨sm,⟨v,rfl⟩,hall⟩
    rw [lm] at hall
    have hall':∀j:Nat,j<ns.length->dY kvs (Sum.inl (l+(j:Int)):Key)=none:=fun j hj=>hall j (by omega)
    obtain⟨⟨dx3,g1⟩,gw,gd⟩:=S.same sm
    have hd0:=S.dc
    obtain⟨dx0,hp0⟩:=S.ob
    have ntd:t≠d:=aX ht hd0 (by intro z;cases z)
    have npd:p≠d:=aX hp0 hd0 (by intro z;cases z)
    refine⟨_,rfl,_,rfl,t,l,rfl,rfl,AbK b1 (by omega),⟨_,SqT.of (sm _ _ ht)⟩,wW (K:=K) (a:=t) (d:=l) (xs:=ns.map V.int)
     (fun i σ H4=>(∃u v,σ=[some (.ref p),some (.int l),some (.ref t),u,v])/\H4 d=some (.dK (kvs++nU l ns i))/\∀b o,H b=some o->b≠d->H4 b=some o)
     ⟨⟨_,_,rfl⟩,by rw [gd];simp [nU],fun b o e hb=>sm _ _ e⟩ (fun i σ H4 _ ⟨_,_,kk⟩=>SqT.of (kk _ _ ht ntd)) ?_ ?_⟩
    ·rintro i x σ H4 t' hi ⟨⟨u,v',rfl⟩,hdd,kk⟩ ht'
     have hil:i<ns.length:=by
      have:=(List.getElem?_eq_some_iff.mp hi).1
      omega
     have ex:x=V.int (ns.getD i 0):=by
      rw [List.getElem?_map,List.getElem?_eq_getElem hil] at hi
      rw [<- Option.some.inj hi,List.getD_eq_getElem?_getD,List.getElem?_eq_getElem hil]
      rfl
     subst ex
     have ndt:d≠t':=aF hdd ht'
     have npt:p≠t':=aF (kk _ _ hp0 npd) ht'
     refine⟨t',_,rfl,SqT.of aD,rfl,_,_,rfl,_,_,rfl,rfl,?_⟩
     refine⟨_,rfl,_,rfl,p,C,dx0,_,_,rfl,(by rw [aG npt];exact kk _ _ hp0 npd),T.cl,T.nR,jH _ _,_,rfl,d,_,rfl,DPut.k (k:=Sum.inl (l+(i:Int))) (by rw [aG ndt];exact hdd) (by rw [List.length_append,AhB];omega),?_⟩
     refine⟨⟨_,_,rfl⟩,?_,fun b o e hb=>?_⟩
     ·rw [aD,wB _ (AhA (hall' i hil)),List.append_assoc,<- AdL]
     ·rw [aG hb,aG (aF (kk b o e hb) ht')]
      exact kk b o e hb
    ·rintro σ H4 ⟨_,hdd,kk⟩
     rw [lm] at hdd
     exact yes hall' H4 hdd kk
def spRes (C:Addr):Sp:=fun vs H Q _=>∃(p pw d:Addr) (ws:Lm.Ps) (kvs:List (Key × V)) (x:V),vs=[.ref p,x]/\cO C H p pw d ws kvs/\Knd H x/\(kF x=false->Q .non H)/\(∀i,x=.int i->Q ((dY kvs (Sum.inl i:Key)).getD .non) H)
theorem scRes:aP ["self","place"] ["self","place"] (aH sSRes):=⟨rfl,rfl,rfl,by decide +kernel,rfl,by decide +kernel,by decide +kernel⟩
theorem ok_res {f C fW:Addr} {fd fdW:FuncData} (F:Fun K "result_at" "Sheet.result_at" sSRes f fd) (T:Cl K mg C)
  (GW:aJ P w K mg base CX0 1 fW fdW ["thing"] dS) (kW:keepIn K (.ref fW)=true) (bW:aO K fdW ["thing"] []) (mW:mg "is_whole"=some (.ref fW)):aJ P w K mg base CX0 2 f fd ["self","place"] (spRes C):=by
 refine F.ok scRes (fun vs H Q E h=>?_) (fun cdv A outer s H vs Q E hr h=>?_)
 ·obtain⟨p,pw,d,ws,kvs,x,rfl,_⟩:=h
  rfl
 ·obtain⟨p,pw,d,ws,kvs,x,rfl,S,kx,no,yes⟩:=h
  have hu:=hu_of hr
  refine⟨_,aC (cJ (dA (cW (aL GW hr rfl mW kW bW .nil aN (aA (pv 1) aB)))) (aI (aY dX)) bV) (aI (aY (AeY hu (aV (pv 0) rfl) (pv 1) (by constructor <;> rfl)))),?_⟩
  obtain⟨⟨dx,h1⟩,hw,hd⟩:=id S
  refine⟨_,rfl,_,rfl,kx,_,rfl,?_⟩
  cases hx:kF x with
  | false=>exact eP (no hx)
  | true=>
   refine dH ?_
   obtain⟨i,rfl⟩:∃i,x=.int i:=by
    cases x <;> first|exact⟨_,rfl⟩|cases hx
   exact⟨_,rfl,p,C,dx,_,_,rfl,h1,T.cl,T.nR,jH _ _,d,rfl,.inl ⟨kvs,.inl hd⟩,_,rfl,_,jX.k (k:=Sum.inl i) hd,yes i rfl⟩
end
end Ls
namespace L2
open PySem PySem.Spec PyProof.Rows
def vJ (h:Heap) (mg:Str->Option Value):Prop:=∃bm o,mg "__builtins__"=some (.ref bm)/\bm≠builtinsNs/\h.get? bm=some o/\o.cls=.type "module"/\o.dict=some builtinsNs/\o.data=.plain
def OnlyT (ts:List Addr) (H:Hp):Prop:=∀b,H b=none\/(∃o xs,H b=some (.frz o (.lst xs)))\/(b ∈ ts/\H b=some (.tbl #[]))
theorem AdC {P:Program} {w:World} {K:PySem.W.Frag} {mg mb:Str->Option Value} {CX:CXT} {k:Nat} {fa a:Addr} {fd:FuncData} {x:Str} {sp:Sp} {s₁:Shared} {vs:List Value} {ns:List Int} {ts:List Addr}
  (KX:K.In s₁.heap) (hns:s₁.heap.Ns mainGlobals mg) (hb:s₁.heap.Ns builtinsNs mb) (hbb:∀x:Str,x≠"__name__"->mb x=bootBuiltins x) (hlim:s₁.heap.NoLimit) (hg:s₁.gens=#[])
  (hT:∀P ∈ ts,s₁.heap.get? P=some (PySem.W.tabObj #[])) (hKT:PySem.W.noTabs K=true) (hC:∀P ∈ ts,isCodeTable s₁.heap P) (hBm:vJ s₁.heap mg)
  (ha:s₁.heap.get? a=some { cls:=.type "list",data:=.seq vs.toArray }) (hi:IntsAre vs ns) (hl:ns.length<=sizeLine) (hr:Room k callerA)
  (F:∀base:Heap,K.In base->base.Ns mainGlobals mg->vJ base mg->aJ P w K mg base CX k fa fd [x] sp) (hbind:∀(s:Shared) (u:Value),BindsTo s fd ⟨[u],[]⟩ [(x,u)])
  (hsp:∀H:Hp,OnlyT ts H->(∀P ∈ ts,H P=some (.tbl #[]))->SqL K H a (ns.map V.int)->sp [.ref a] H (fun v _=>v=.bl true) fun _ _ _=>False)
  (hCX:∀H e s',CX [] H s₁ (fun _ _ _=>False) e s'->False):
  codeAny (model P w) callerA (.call (.ref fa) ⟨[.ref a],[]⟩) (fun r s'=>r=.ok (.ret (.bool true))/\OldK s₁.heap s'.heap/\s'.os=s₁.os/\AllBare s'.gens) s₁:=by
 have rv:=rZ hi
 have lenV:=hi.length
 have kT:∀P ∈ ts,K.lookup P=none:=fun p hp=>by
  cases q:K.lookup p with
  | none=>rfl
  | some o=>
   have e:=KX p o q
   rw [hT p hp] at e
   cases e
   exact absurd (List.all_eq_true.mp hKT (p,_) (PySem.W.mem_of_lookupK q)) (by simp)
 have aT:a ∉ ts:=fun hm=>by
  have e:=hT a hm
  rw [ha] at e
  cases e
 have core:∀H:Hp,OnlyT ts H->(∀P ∈ ts,H P=some (.tbl #[]))->SqL K H a (ns.map V.int)->HOk P w H s₁.heap->(∀b,H b≠none->b=a\/b ∈ ts)->(H a≠none->K.lookup a=none) ->
   codeAny (model P w) callerA (.call (.ref fa) ⟨[.ref a],[]⟩) (fun r s'=>r=.ok (.ret (.bool true))/\OldK s₁.heap s'.heap/\s'.os=s₁.os/\AllBare s'.gens) s₁:=by
  intro H hO hTs hS hok hA hK
  have base_of:∀{b:Addr} {o:Obj},s₁.heap.get? b=some o->H b=none->(rW s₁.heap H).get? b=some o:=fun e n=>AgN e n
  have noA:∀{b:Addr} {o:Obj} {es:Array DictEntry} {ep:Nat},s₁.heap.get? b=some o->o.data=.dict es ep->H b=none:=fun {b o es ep} e d=>by
   cases q:H b with
   | none=>rfl
   | some u=>
    rcases hA b (by rw [q];simp) with e' | e'
    ·subst e'
     rw [ha] at e;cases e
     have d':Data.seq vs.toArray _=Data.dict es ep:=d
     cases d'
    ·rw [hT b e'] at e;cases e
     have d':Data.fields #[]=Data.dict es ep:=d
     cases d'
  have nsK:∀{b:Addr} {m:Str->Option Value},s₁.heap.Ns b m->(rW s₁.heap H).Ns b m:=fun {b m} ⟨o,es,ep,e,d,r⟩=>⟨o,es,ep,base_of e (noA e d),d,r⟩
  have hKb:K.In (rW s₁.heap H):=fun b o e=>base_of (KX b o e) (by
   cases q:H b with
   | none=>rfl
   | some u=>
    rcases hA b (by rw [q];simp) with e' | e'
    ·subst e'
     rw [hK (by rw [q];simp)] at e;cases e
    ·rw [kT b e'] at e;cases e)
  have hM:Mod K mg (rW s₁.heap H):=⟨hKb,nsK hns,⟨mb,nsK hb,hbb⟩,let ⟨mc,h1,h2⟩:=hlim;⟨mc,nsK h1,h2⟩⟩
  have hBb:vJ (rW s₁.heap H) mg:=by
   obtain⟨bm,ob,b1,b2,b3,b4,b5,b6⟩:=hBm
   refine⟨bm,ob,b1,b2,base_of b3 ?_,b4,b5,b6⟩
   cases q:H bm with
   | none=>rfl
   | some u=>
    rcases hA bm (by rw [q];simp) with e' | e'
    ·subst e'
     rw [ha] at b3;cases b3
     have b4:Value.type "list"=.type "module":=b4
     exact absurd (Value.type.inj b4) (by decide)
    ·rw [hT bm e'] at b3;cases b3;cases b4
  have e0:rP P w K mg (rW s₁.heap H) callerA [] s₁ H:=⟨rfl,hM,fun b o e=>of_hidT e,Nat.le_of_eq (AdH _ _),trivial,fun b hb=>absurd (show b ∈ ([]:List Addr) from hb) (by simp),hok,.of_eq hg⟩
  refine codeAny_mono ((F _ hKb (nsK hns) hBb).run callerA [] s₁ H ⟨[.ref a],[]⟩ [.ref a] [.ref a] _ _ hr e0 (hbind s₁ (.ref a)) (.cons rfl .nil) (hsp H hO hTs hS)) fun r s' h=>?_
  cases r with
  | error e=>exact(hCX H e s' h).elim
  | ok fl=>
   cases fl with
   | next=>exact False.elim h
   | brk=>exact False.elim h
   | cont=>exact False.elim h
   | ret u=>
    obtain⟨v,H',os,bare,un,hok',r',q⟩:=h
    have q':v=.bl true:=q
    subst q'
    obtain rfl:u=Value.bool true:=r'
    refine⟨rfl,⟨fun b o e=>?_,fun b o e=>un.there b o e (by simp)⟩,os,bare⟩
    cases q:H b with
    | none=>exact .inl (un.keep b o e q (by intro z;exact absurd (show b ∈ ([]:List Addr) from z) (by simp)) (by simp))
    | some u=>
     rcases hO b with z|⟨ob,xs,z⟩|⟨hm,z⟩
     ·rw [q] at z;cases z
     ·have z2:=un.frzs b ob _ z
      obtain⟨e1,_⟩:=hok b _ z
      obtain⟨e2,_⟩:=hok' b _ z2
      rw [e] at e1;cases e1
      exact .inl e2
     ·obtain⟨more,z2⟩:=un.tbls b _ z
      have e2:s'.heap.get? b=some { cls:=.none,data:=.fields (#[]++more) }:=hok' b _ z2
      have e3:=hT b hm
      rw [e] at e3;cases e3
      exact .inr (.inl ⟨hC b hm,rfl,#[],more,rfl,e2⟩)
 have dec:∀b,Decidable (b ∈ ts):=fun b=>inferInstance
 have tb:∀b,b ∈ ts->cL P w (fun _=>none) s₁.heap b (.tbl #[]):=fun b hb=>hT b hb
 cases hk:K.lookup a with
 | some o=>
  have e:=KX a o hk
  rw [ha] at e
  cases e
  refine core (fun b=>if b ∈ ts then some (.tbl #[]) else none) (fun b=>?_) (fun p hp=>if_pos hp) (.inr ⟨_,vs.toArray,_,hk,rfl,rfl,rfl,by rw [List.size_toArray,lenV];exact hl,by simpa using rv⟩) (fun b u z=>?_) (fun b z=>?_) fun z=>absurd (if_neg aT) z
  ·by_cases hb:b ∈ ts
   ·exact .inr (.inr ⟨hb,if_pos hb⟩)
   ·exact .inl (if_neg hb)
  ·by_cases hb:b ∈ ts
   ·have z':=(if_pos hb).symm.trans z
    cases z'
    exact hT b hb
   ·have z':=(if_neg hb).symm.trans z
    cases z'
  ·by_cases hb:b ∈ ts
   ·exact .inr hb
   ·exact absurd (if_neg hb) z
 | none=>
  refine core (fun b=>if b=a then some (.frz { cls:=.type "list",data:=.seq vs.toArray } (.lst (ns.map V.int))) else if b ∈ ts then some (.tbl #[]) else none) (fun b=>?_) (fun p hp=>?_) (.inl (.inr ⟨{ cls:=.type "list",data:=.seq vs.toArray },if_pos rfl⟩)) (fun b u z=>?_) (fun b z=>?_) fun _=>hk
  ·by_cases hb:b=a
   ·exact .inr (.inl ⟨_,_,if_pos hb⟩)
   ·by_cases ht:b ∈ ts
    ·exact .inr (.inr ⟨ht,(if_neg hb).trans (if_pos ht)⟩)
    ·exact .inl ((if_neg hb).trans (if_neg ht))
  ·exact(if_neg (fun z:p=a=>aT (by rw [<- z];exact hp))).trans (if_pos hp)
  ·by_cases hb:b=a
   ·have z':=(if_pos hb).symm.trans z
    cases z'
    subst hb
    exact⟨ha,by rw [List.length_map];exact hl,vs,_,rv,ha⟩
   ·by_cases ht:b ∈ ts
    ·have z':=((if_neg hb).trans (if_pos ht)).symm.trans z
     cases z'
     exact hT b ht
    ·have z':=((if_neg hb).trans (if_neg ht)).symm.trans z
     cases z'
  ·by_cases hb:b=a
   ·exact .inl hb
   ·by_cases ht:b ∈ ts
    ·exact .inr ht
    ·exact absurd ((if_neg hb).trans (if_neg ht)) z
theorem walk_ofT {l:PySem.W.OpenLaw} {n k:Nat} {q:Program} {loose:List Str} {XP:(Str->Option Value)->Heap->Prop} {YP:World->Heap->Prop} {d:DefRec} {K:Params->PySem.W.Frag} {CX:World->CXT} {sp:World->Sp} {x:Str} {ts:List Addr}
  (hn:l.most=some n) (hn2:n<=sizeLine) (hdf:d.params.defaults=[]) (hr:Room k callerA)
  (hY:∀(w:World) (h:Heap),YP w h->(K w.params).In h/\PySem.W.noTabs (K w.params)=true/\∀p ∈ ts,h.get? p=some (PySem.W.tabObj #[])/\isCodeTable h p)
  (F:∀(w:World) (mg:Str->Option Value) (fa:Addr) (h:Heap),(K w.params).In h->h.Ns mainGlobals mg->mg d.name=some (.ref fa) ->
   ∃fd:FuncData,(∀(s:Shared) (u:Value),BindsTo s fd ⟨[u],[]⟩ [(x,u)]) /\
    ∀base:Heap,(K w.params).In base->base.Ns mainGlobals mg->vJ base mg->aJ l.prog w (K w.params) mg base (CX w) k fa fd [x] (sp w))
  (hsp:∀(w:World) (H:Hp) (a:Addr) (ns:List Int),ns.length<=n->OnlyT ts H->(∀P ∈ ts,H P=some (.tbl #[]))->SqL (K w.params) H a (ns.map V.int)->sp w [.ref a] H (fun v _=>v=.bl true) fun _ _ _=>False)
  (hCX:∀(w:World) (H:Hp) (s:Shared) (e:Value) (s':Shared),CX w [] H s (fun _ _ _=>False) e s'->False):
  PySem.W.WalkO q loose XP YP l.row.toRowW d [] (fun f vs=>PySem.call f vs):=by
 refine Att.attach_call hn hdf fun w s₀ s₁ mg mb fa o pm cd doc a vs ns G Y ho hd hcd hmg hobj hints hlen hg=>?_
 obtain⟨KX,hKT,hTs⟩:=hY w _ Y
 obtain⟨fd,hb,hF⟩:=F w mg fa _ KX G.T.g hmg
 exact AdC KX G.T.g G.T.b G.T.builtins G.T.nolimit hg (fun p hp=>(hTs p hp).1) hKT (fun p hp=>(hTs p hp).2) (let ⟨bm,ob,b1,b2,b3,b4,b5,b6⟩:=G.T.bmain;⟨bm,ob,b1,b2,b3,b4,b5,b6⟩) hobj hints (Nat.le_trans hlen hn2) hr hF hb (fun H hO hT hS=>hsp w H a ns hlen hO hT hS) fun H e s'=>hCX w H s₁ e s'
def rH (c:Addr) (q:Str):HO:=.ext fun h=>h.CodeRec (.ref c) q
def funO (f:Addr) (o:Obj):HO:=.ext fun h=>h.get? f=some o
def Tab (H:Hp) (T:Addr) (pos:Pos) (q:Str):Prop:=∃ps,H T=some (.tbl ps)/\TriplesOk ps.toList/\(codeAmong pos ps.toList=none\/∃c',codeAmong pos ps.toList=some (.ref c')/\H c'=some (rH c' q))
def cQ (T:Addr) (H H':Hp):Prop:=∀b o,b≠T->H b=some o->H' b=some o
theorem AhI {P:Program} {w:World} {H:Hp} {h:Heap} {c:Addr} {q:Str} (x:h.CodeRec (.ref c) q):cL P w H h c (rH c q):=by
 refine⟨x,?_,fun h1 h2 y k=>?_⟩
 ·obtain⟨c₂,o,vs,t,e,g,_⟩:=x
  cases e
  exact⟨o,g⟩
 ·obtain⟨c₂,o,vs,t,e,g,r⟩:=y
  cases e
  exact⟨c,o,vs,t,rfl,k _ g,r⟩
theorem AbJ {P:Program} {w:World} {H:Hp} {h:Heap} {f:Addr} {o:Obj} (x:h.get? f=some o):cL P w H h f (funO f o):=⟨x,⟨o,x⟩,fun h1 h2 y k=>k _ y⟩
section
variable {X:Cx} {pins:List (Addr × Obj)} {σ:List (Option V)} {H:Hp} {s:Shared}
theorem Inv.madeNew {h':Heap} {T c':Addr} {q:Str} {ps more:Array Value} {o:Obj} {tk:Nat} (I:Inv X pins σ H s) (hT:H T=some (.tbl ps)) (hx:Heap.ExtBut T s.heap h') (hge:s.heap.objs.size<=c') (hlt:c'<h'.objs.size)
  (hrec:h'.CodeRec (.ref c') q) (htb:h'.get? T=some (PySem.W.tabObj (ps++more))) (hcl:o.isFreed=false):
  Inv X pins σ (upd (upd (upd H T (.tbl (ps++more))) c' (rH c' q)) h'.objs.size (funO h'.objs.size o)) { s with heap:=h'.push o,toks:=tk }:=by
 have nc:H c'=none:=I.hok.fresh hge
 have nf:H h'.objs.size=none:=I.hok.fresh (Nat.le_trans hge (Nat.le_of_lt hlt))
 have at':∀b u,b≠T->H b=some u->(upd (upd (upd H T (.tbl (ps++more))) c' (rH c' q)) h'.objs.size (funO h'.objs.size o)) b=some u:=fun b u hb e=>by
  rw [aG (aF e nf),aG (aF e nc),aG hb]
  exact e
 have neT:∀b u,H b=some u->u≠.tbl ps->b≠T:=fun b u e n z=>by
  subst z
  rw [hT] at e
  exact n (Option.some.inj e).symm
 have noT:∀b,H b=none->b≠T:=fun b e z=>by rw [z,hT] at e;cases e
 have Tc:T≠c':=aF hT nc
 have Tf:T≠h'.objs.size:=aF hT nf
 have kp:∀b u,b≠T->s.heap.get? b=some u->(h'.push o).get? b=some u:=fun b u hb e=>Heap.get?_push_of_some _ (hx b u hb e)
 refine I.un ⟨fun b u e n _ _=>kp b u (noT b n) e,fun b u e n _ _=>⟨u.slots,kp b u (noT b n) e⟩,fun b u e n _=>?_,fun b u e _=>?_,fun b xs e=>at' b _ (neT b _ e (by intro z;cases z)) e,fun b ob u e=>at' b _ (neT b _ e (by intro z;cases z)) e,fun b qs e=>?_⟩ fun b u e=>?_
 ·have hb:=Heap.lt_size e
  have h1:b≠c':=Nat.ne_of_lt (Nat.lt_of_lt_of_le hb hge)
  have h2:b≠h'.objs.size:=Nat.ne_of_lt (Nat.lt_trans (Nat.lt_of_lt_of_le hb hge) hlt)
  rw [aG h2,aG h1,aG (noT b n)]
  exact n
 ·by_cases hb:b=T
  ·subst hb
   exact⟨_,Heap.get?_push_of_some _ htb⟩
  ·exact⟨u,kp b u hb e⟩
 ·by_cases hb:b=T
  ·subst hb
   rw [hT] at e
   cases e
   exact⟨more,by rw [aG Tf,aG Tc,aD]⟩
  ·exact⟨#[],by rw [at' b _ hb e];simp⟩
 ·by_cases hf:b=h'.objs.size
  ·subst hf
   rw [aD] at e
   cases e
   exact AbJ (Heap.get?_push_size _ hcl)
  ·rw [aG hf] at e
   by_cases hc:b=c'
   ·subst hc
    rw [aD] at e
    cases e
    exact AhI (hrec.push o)
   ·rw [aG hc] at e
    by_cases hb:b=T
    ·subst hb
     rw [aD] at e
     cases e
     exact Heap.get?_push_of_some _ htb
    ·rw [aG hb] at e
     refine(I.hok b u e).stay (fun c v hc' g=>kp c v ?_ g) (fun c z=>at' c _ (neT c _ z (by intro y;cases y)) z) fun c xs z=>at' c _ (neT c _ z (by intro y;cases y)) z
     rcases hc' with rfl|z
     ·exact hb
     ·exact neT c _ z (by intro y;cases y)
end
def tLam (T:Addr) (pos:Pos) (q:Str) (mk:Addr->Value->Obj):TE:=fun _ H Q=>Tab H T pos q/\∀f c' ctv H',cQ T H H'->H f=none->Tab H' T pos q->H' c'=some (rH c' q)->H' f=some (funO f (mk c' ctv))->Q (.ref f) H'
section
variable {X:Cx}
theorem AeX {params:Arguments} {body:Expr} {scope:Scope} {pos:Pos} {c T:Addr} {clos:List (Str × Addr)} {q:Str} (hcode:X.env.code=.ref c) (hc:PySem.W.codeHdIn X.K c T=true) (hbm:vJ X.base X.mg)
  (hdef:defaultsOf params X.env=([],[])) (hcl:closureFor scope X.env=pure clos) (hq:X.env.qual++"<lambda>"=q) (hline:True):
  PE X (.Lambda params body scope pos) (tLam T pos q fun c' ctv=>PySem.W.kla_obj "<lambda>" q params body scope clos ((X.mg "__name__").getD .none) c' ctv):=by
 intro pins s σ H Q I h
 obtain⟨⟨ps,hT,ht,hcase⟩,h⟩:=h
 subst hq
 have hg:s.heap.Ns mainGlobals X.mg:=I.ok.mod.glob.keeps I.bk
 have hTs:s.heap.get? T=some (PySem.W.tabObj ps):=I.hok T _ hT
 have C:PySem.W.CodeHd s.heap c T:=PySem.W.codeHd_of_K I.kIn hc
 have hgT:mainGlobals≠T:=fun z=>by
  obtain⟨o,es,ep,e,hd,_⟩:=hg
  rw [z,hTs] at e;cases e;cases hd
 have hb:s.heap.BuiltinsAt X.mg T:=by
  obtain⟨bm,ob,b1,b2,b3,b4,b5,b6⟩:=hbm
  have b3':=I.bk _ _ b3
  refine⟨bm,ob,b1,b2,fun z=>?_,fun z=>?_,b3',b4,b5,b6⟩
  ·obtain⟨o,es,ep,e,hd,_⟩:=hg
   rw [z,e] at b3';cases b3'
   rw [hd] at b6;cases b6
  ·rw [z,hTs] at b3';cases b3'
   cases b4
 refine PySem.W.kla_eval hdef ?_
 rcases hcase with hnf|⟨c',hf,hC⟩
 ·refine PySem.W.kla_makeFunction hcl I.ok.glob hg hcode C hTs ht hnf hgT hb fun c' ctv h' tk hx hge hlt hrec htb=>?_
  have nc:H c'=none:=I.hok.fresh hge
  have nf:H h'.objs.size=none:=I.hok.fresh (Nat.le_trans hge (Nat.le_of_lt hlt))
  have Tc:T≠c':=aF hT nc
  have Tf:T≠h'.objs.size:=aF hT nf
  have ne:c'≠h'.objs.size:=Nat.ne_of_lt hlt
  have J:=I.madeNew (tk:=tk) (o:=PySem.W.kla_obj "<lambda>" (X.env.qual++"<lambda>") params body scope clos ((X.mg "__name__").getD .none) c' ctv) hT hx hge hlt hrec htb rfl
  refine⟨.ref h'.objs.size,_,J,rfl,h h'.objs.size c' ctv _ (fun b o hb e=>?_) nf ⟨_,by rw [aG Tf,aG Tc,aD],?_,.inr ⟨c',?_,?_⟩⟩ ?_ aD⟩
  ·rw [aG (aF e nf),aG (aF e nc),aG hb]
   exact e
  ·rw [Array.toList_append]
   exact TriplesOk_snoc _ _ _ _ ht
  ·rw [Array.toList_append]
   exact codeAmong_snoc _ ht hnf
  ·rw [aG ne,aD]
  ·rw [aG ne,aD]
 ·refine PySem.W.kla_makeFunctionHit hcl I.ok.glob hg hcode C hTs ht hf hb fun ctv h' tk hk hsz=>?_
  have nf:H h'.objs.size=none:=I.hok.fresh hsz
  refine⟨.ref h'.objs.size,_,I.laid (a:=h'.objs.size) (t':=tk) (fun b u e=>Heap.get?_push_of_some _ (hk b u e)) hsz (AbJ (Heap.get?_push_size _ rfl)),rfl,h h'.objs.size c' ctv _ (fun b o hb e=>?_) nf ⟨ps,?_,ht,.inr ⟨c',hf,?_⟩⟩ ?_ aD⟩
  ·rw [aG (aF e nf)]
   exact e
  ·rw [aG (aF hT nf)]
   exact hT
  ·rw [aG (aF hC nf)]
   exact hC
  ·rw [aG (aF hC nf)]
   exact hC
end
theorem lam_run {CX:CXT} {P:Program} {w:World} {K:PySem.W.Frag} {mg:Str->Option Value} {base:Heap} {k:Nat} {f c':Addr} {q:Str} {params:Arguments} {body:Expr} {scope:Scope} {pm ctv:Value} {N ps:List Str} {A:Around} {outer:List Env} {s:Shared} {H:Hp} {args:Args} {us:List Value} {vs:List V} {Q:VK} {E:XK}
  (hf:H f=some (funO f (PySem.W.kla_obj "<lambda>" q params body scope [] pm c' ctv))) (hc:H c'=some (rH c' q)) (S:aP N ps scope) (hr:Room (k+1) A) (e0:rP P w K mg base A outer s H)
  (hb:bindArgs (PySem.W.kla_fn "<lambda>" q params body scope [] pm (.ref c') ctv) args=pure (ps.zip us)) (r:cE vs us) (hl:vs.length=ps.length)
  (hbody:Room k (A.deeper (envOfC q scope s.heap.objs.size f (.ref c')))->∃t,PE (jV CX P w K mg base N q scope f (.ref c') A outer s H E) body t/\t (dI N vs) H Q):
  codeAny (model P w) A (.call (.ref f) args) (CR CX outer P w H s Q E) s:=by
 have lim:s.heap.NoLimit:=e0.mod.nolimit.keeps fun b o e=>(e0.bs b o e).1
 have hkind:∀y ∈ ps.zip us,scope.names.lookup y.1=some .local\/(scope.names.lookup y.1=some .cell/\((cellsFrom (s.heap.objs.size+1) scope.names []).lookup y.1).isSome=true):=fun⟨n,v⟩ hy=>by
  rcases S.par n (List.of_mem_zip hy).1 with q|q
  ·exact .inl q
  ·exact .inr ⟨q,PySem.W.cellsFrom_some _ _ _ (.inl q)⟩
 obtain⟨ho,_,_⟩:=e0.hok f _ hf
 obtain⟨hcd,_,_⟩:=e0.hok c' _ hc
 have ho:s.heap.get? f=some (PySem.W.kla_obj "<lambda>" q params body scope [] pm c' ctv):=ho
 have hcd:s.heap.CodeRec (.ref c') q:=hcd
 refine PySem.W.kla_callFunE hr.depth ho rfl S.co S.gen rfl hcd ?_
 rw [hb]
 refine wpAny_pure ?_
 refine wpAny_newFunctionEnv_cells S.kind hkind fun env he s1 x=>?_
 subst he
 refine⟨lim.keeps x.toInCall.keep,PySem.W.kla_codeExpr ?_⟩
 obtain⟨t,ht,hq⟩:=hbody (hr.deeper _)
 have I:Inv (jV CX P w K mg base N q scope f (.ref c') A outer s H E) [] (dI N vs) H s1:=nQ S hr.hd e0 hl r x
 refine wpAny_mono (ht s1 (dI N vs) H _ I hq) (fun u s' hs=>?_) fun e s' hs=>hs
 obtain⟨v,H',J,rv,z⟩:=hs
 exact⟨v,H',J.os,J.bare,J.base,J.hok,rv,z⟩
end L2
namespace L2
open PySem PySem.Spec PyProof.Rows PySem.W
section
variable {X:Cx}
theorem Inv.as_at {pins:List (Addr × Obj)} {σ:St} {H:Hp} {s:Shared} {a:Addr} {u u':HO} (I:Inv X pins σ H s) (e:H a=some u) (n1:∀xs,u≠.tup xs) (n2:∀ps,u≠.tbl ps) (n3:∀x,u≠.own x) (nf:∀o v,X.H₀ a≠some (.frz o v)) (new:cL X.prog X.w (upd H a u') s.heap a u'):Inv X pins σ (upd H a u') s:=by
 have ne:∀b,H b=none->b≠a:=fun b n z=>by
  rw [z,e] at n
  cases n
 refine⟨I.ok,I.os,I.bare,⟨I.base.keep,I.base.slot,fun b o q n hx=>?_,I.base.there,fun b xs q=>?_,fun b o v q=>?_,fun b ps q=>?_⟩,I.loc,I.cell,?_,fun x c q=>?_,fun p hp=>?_,fun b o q=>?_,I.len⟩
 ·have z:=I.base.free b o q n hx
  rw [aG (ne b z)]
  exact z
 ·have z:=I.base.tups b xs q
  rw [aG (fun y=>by rw [y,e] at z;exact n1 xs (Option.some.inj z))]
  exact z
 ·rw [aG (fun y=>nf o v (by rw [<- y];exact q))]
  exact I.base.frzs b o v q
 ·obtain⟨m,z⟩:=I.base.tbls b ps q
  exact⟨m,by rw [aG (fun y=>by rw [y,e] at z;exact n2 _ (Option.some.inj z))];exact z⟩
 ·rw [aG (ne _ I.free)]
  exact I.free
 ·rw [aG (ne _ (I.freeC x c q))]
  exact I.freeC x c q
 ·obtain⟨z1,z2,z3⟩:=I.pin p hp
  exact⟨z1,by rw [aG (ne _ z2)];exact z2,z3⟩
 ·by_cases hb:b=a
  ·subst hb
   rw [aD] at q
   cases q
   exact new
  ·rw [aG hb] at q
   refine(I.hok b o q).stay (fun c w' _ r=>r) (fun c z=>?_) fun c xs z=>?_
   ·rw [aG (fun y=>by rw [y,e] at z;exact n3 _ (Option.some.inj z))]
    exact z
   ·rw [aG (fun y=>by rw [y,e] at z;exact n1 _ (Option.some.inj z))]
    exact z
theorem cL.dK_at {P:Program} {w:World} {H H':Hp} {h:Heap} {a:Addr} {kvs:List (Key × V)} (q:cL P w H h a (.dK kvs)):cL P w H' h a (.dK kvs):=q
theorem Inv.thaw {pins:List (Addr × Obj)} {σ:St} {H:Hp} {s:Shared} {a:Addr} {o:Obj} {kvs:List (Key × V)} (I:Inv X pins σ H s) (e:H a=some (.frz o (.dK kvs))) (nf:∀o v,X.H₀ a≠some (.frz o v)):Inv X pins σ (upd H a (.dK kvs)) s:=by
 obtain⟨_,q⟩:=(show cL X.prog X.w H s.heap a (.frz o (.dK kvs)) from I.hok a _ e)
 exact I.as_at e (fun _ z=>nomatch z) (fun _ z=>nomatch z) (fun _ z=>nomatch z) nf q.dK_at
theorem Inv.freeze {pins:List (Addr × Obj)} {σ:St} {H:Hp} {s:Shared} {a:Addr} {kvs:List (Key × V)} (I:Inv X pins σ H s) (e:H a=some (.dK kvs)):∃o,s.heap.get? a=some o/\Inv X pins σ (upd H a (.frz o (.dK kvs))) s:=by
 have q:=(show cL X.prog X.w H s.heap a (.dK kvs) from I.hok a _ e)
 obtain⟨o,ho⟩:=q.is
 refine⟨o,ho,I.as_at e (fun _ z=>nomatch z) (fun _ z=>nomatch z) (fun _ z=>nomatch z) (fun o' v z=>?_) ⟨ho,q.dK_at⟩⟩
 have:=I.base.frzs a o' v z
 rw [e] at this
 cases this
def sThaw (H0:Hp) (t:TS):TS:=fun D σ H=>t { D with nx:=fun σ1 H1=>∃a o kvs,H1 a=some (.frz o (.dK kvs))/\(∀o v,H0 a≠some (.frz o v))/\D.nx σ1 (upd H1 a (.dK kvs)) } σ H
theorem AaS {st:Stmt} {t:TS} (h:PS X st t):PS X st (sThaw X.H₀ t):=fun pins s σ H D I q=>thn (h s σ H _ I q) fun f s1 z=>by
 cases f with
 | next=>
  obtain⟨σ1,H1,I1,a,o,kvs,z1,z2,z3⟩:=z
  exact⟨σ1,_,I1.thaw z1 z2,z3⟩
 | _=>exact z
end
theorem AbM {X:Cx} {pins:List (Addr × Obj)} {σ:St} {H:Hp} {s:Shared} {a:Addr} {o:Obj} {kvs:List (Key × V)} {es:Array DictEntry} {ep:Nat} (I:Inv X pins σ H s) (e:H a=some (.frz o (.dK kvs))) (hd:o.data=.dict es ep):
  ∃vs,KV kvs vs/\s.heap.DictAt (cY X.prog X.w) a vs ep:=by
 obtain⟨g,_,_,vs,r,o',es',ep',q,c,d,k1,k2,k3⟩:=(show cL X.prog X.w H s.heap a (.frz o (.dK kvs)) from I.hok a _ e)
 rw [g] at q
 cases q
 rw [hd] at d
 cases d
 exact⟨vs,r,o,es,g,c,hd,k1,k2,k3⟩
section
variable {X:Cx} {tg:Expr}
end
section
variable {prog:Program} {w:World} {A:Around} {E:Value->Shared->Prop} {s:Shared}
end
theorem five_ne (n:Nat):n+4≠n+2/\n+4≠n+3/\n+4≠n/\n+4≠n+1/\n+2≠n+3/\n+2≠n/\n+2≠n+1/\n+3≠n/\n+3≠n+1/\n≠n+1:=by omega
theorem five_le (n b:Nat) (h:b=n+4\/b=n+2\/b=n+3\/b=n\/b=n+1):n<=b:=by omega
section
variable {X:Cx}
theorem AhL:bootBuiltins "zip"=some (.type "zip"):=by decide +kernel
end
section
variable {prog:Program} {w:World} {A:Around} {E:Value->Shared->Prop} {s:Shared}
end
section
variable {prog:Program} {w:World} {A:Around} {E:Value->Shared->Prop}
end
section
variable {X:Cx}
def Its (x:Str):It:=⟨fun i _=>i<x.length,fun i H v H'=>H'=H/\∃c,x.cps[i]?=some c/\v=.str ⟨#[c]⟩,fun i _=>x.length<=i⟩
theorem AdW {P:Program} {hd0:Option Value} {w:World} {K:PySem.W.Frag} {tg:Expr} (x:Str) (t:Tok) (it:Addr) (e0:hd0=none):xL P w K hd0 tg (Its x) [it] it (fun i h=>h.IsStrIter it "str_ascii_iterator" x t i) where
 mem:=by simp
 obj:=fun i h st b hb=>by
  have e:b=it:=by simpa using hb
  subst e
  obtain⟨o,e,c,d⟩:=st
  exact⟨o,e,fun v z=>by rw [d] at z;cases z⟩
 keep:=fun i h h' st k=>by
  obtain⟨o,e,c,d⟩:=st
  exact⟨o,k it (by simp) o e,c,d⟩
 item:=by
  intro X hP hw hK hc i pins s σ H E I hf st hg
  subst hP hw hK
  have hi:i<x.cps.size:=hg
  obtain⟨f0,f1,f2,f3,f4,f5⟩:=hf it (by simp)
  refine wpAny_pyNext_ascii_item st (Array.getElem?_eq_getElem hi) fun h' st' sb=>?_
  have I1:Inv X pins σ H { s with heap:=h',toks:=s.toks+1 }:=I.turned (fun b o hb e=>(sb.2 b hb).trans e) f0 f1 f3 f4 f5
  obtain⟨oi,ei,ci,di⟩:=id st'
  exact⟨_,rfl,wV (s:={ s with heap:=h',toks:=s.toks+1 }) ei ci di (by decide) ⟨.str _,H,I1,⟨_,rfl⟩,⟨rfl,_,Array.getElem?_eq_getElem hi,rfl⟩,st',fun b hb=>(hf b hb).1⟩⟩
 done:=by
  intro X hP hw hK hc i pins s σ H E I hf st hg
  subst hP hw hK
  have hi:x.cps.size<=i:=hg
  obtain⟨f0,f1,f2,f3,f4,f5⟩:=hf it (by simp)
  exact wpAny_pyNext_ascii_end (hc.trans e0) st (Array.getElem?_eq_none hi) fun h' eb=>⟨rfl,I.turned (t':=s.toks) (fun b o hb e=>eb b o hb e) f0 f1 f3 f4 f5⟩
 self:=fun _ _ _ _ _ st h=>wpAny_pyIter_striter_ascii st h
def iStr (tl:TE):TI:=fun σ H R=>tl σ H fun v H1=>∃x,v=.str x/\x.cps.all (·<128)=true/\R (Its x) H1
theorem pi_str {tg l:Expr} {tl:TE} (hl:PE X l tl) (hc0:X.calm=true:=by rfl):PI X tg l (iStr tl):=by
 intro pins s σ H R I h
 refine thn (hl s σ H _ I h) fun v s1 ⟨y,H1,I1,r1,q1⟩=>?_
 obtain⟨x,rfl,ha,q⟩:=q1
 obtain⟨t,rfl⟩:=r1
 refine wpAny_pyIter_ascii ha ?_
 refine⟨s1.heap.objs.size,[s1.heap.objs.size],_,_,H1,rfl,I1.kept (t':=s1.toks) fun b o e=>Heap.get?_push_of_some _ e,AdW x t _ (I.ok.hd hc0),⟨_,Heap.get?_push_size _ rfl,rfl,rfl⟩,fun b hb=>?_,q⟩
 have e:b=s1.heap.objs.size:=by simpa using hb
 subst e
 exact I1.fpOk (Nat.le_refl _) (I1.hok.fresh (Nat.le_refl _))
end
def TabK (P:Program) (w:World) (K:Frag) (d:Addr) (c:List (Str × Int)):Prop:=∀h,K.In h->StrTab P w h d (kdpD c)
theorem tabK_of {P:Program} {w:World} {K:Frag} {d:Addr} {c:List (Str × Int)} (e:KTD.tabLook KTD.flatLooks (fun b=>K.lookup b) d (c.map fun p=>(p.1,PyData.int p.2))=true) (n:((c.map fun p=>(p.1,PyData.int p.2)).map (·.1)).Nodup)
  (q:KTD.hashesOf (fun b=>K.lookup b) d=(c.map fun p=>(p.1,PyData.int p.2)).map fun p=>(PySem.strKind P w).hash p.1):TabK P w K d c:=fun h x=>by
 have:=kt_tab_in P w x e n q
 rw [List.map_map] at this
 exact this
section
variable {X:Cx} {e:Expr} {apos cpos p:Pos} {ty:TE}
def tTGet (c:List (Str × Int)) (ty:TE):TE:=fun σ H Q=>ty σ H fun y H2=>∃k,y=.str k/\(kdpHas c k=true->Q (.int (kdpLook c k 0)) H2)/\(kdpHas c k=false->Q .non H2)
theorem pe_tget {x:Str} {d:Addr} {c:List (Str × Int)} (T:TabK X.prog X.w X.K d c) (hg:Gl X x) (hm:X.mg x=some (.ref d)) (he:PE X e ty) (m:M1 X (.Name x p) "get" apos e cpos) (hd:(x == ("__debug__":Str))=false:=by decide):
  PE X (.Call (.Attribute (.Name x p) "get" apos) [e] [] cpos) (tTGet c ty):=by
 intro pins s σ H Q I h
 refine wpAny_Call_method m.base m.few m.line PySem.F.plainAttrs_dict PySem.F.slot_dict_get PySem.F.type_dict_get (gP I hg hm ?_ hd)
 obtain⟨_,kvs,⟨o,es,ep,ho,ex,_⟩,_⟩:=T s.heap I.kIn
 refine⟨⟨o,ho,ex.1⟩,fun a e2=>?_,?_⟩
 ·cases e2
  exact⟨o,ho,ex.2.1⟩
 rw [m.trees]
 refine Calls.callWith_builtin rfl (Calls.evalArgs_plain (Calls.spliced_cons (thn (he s σ H _ I h) fun iv s2 ⟨y,H2,I2,ry,k,ey,q1,q2⟩=>Calls.spliced_nil ?_)))
 subst ey
 obtain⟨t,rfl⟩:=ry
 exact kdp_get1 (T s2.heap I2.kIn) (fun hk t=>⟨.int _,H2,I2.tok _,⟨_,rfl⟩,q1 hk⟩) fun hk=>⟨.non,H2,I2.tok _,rfl,q2 hk⟩
end
structure Own (X:Cx) (a:Addr):Prop where
 up:X.s₀.heap.objs.size<=a
 neL:a≠X.env.locals
 nfs:a ∉ X.fs
 neC:∀x c,X.env.cells.lookup x=some c->c≠a
 neP:∀p ∈ X.pn,p.1≠a
section
variable {X:Cx} {pins pins':List (Addr × Obj)} {σ:St} {H:Hp} {s:Shared} {a:Addr} {o o':Obj} {h':Heap} {tk:Nat}
theorem Own.of (I:Inv X pins σ H s) (h:s.heap.objs.size<=a):Own X a:=by
 refine⟨Nat.le_trans I.sz h,Nat.ne_of_gt (Nat.lt_of_lt_of_le I.lt h),fun hb=>?_,fun x c e z=>?_,fun p hp z=>?_⟩
 ·obtain⟨_,o,ho,_⟩:=I.ok.funs.mem hb
  exact absurd (Nat.lt_of_lt_of_le (Heap.lt_size ho) (Nat.le_trans I.sz h)) (Nat.lt_irrefl _)
 ·obtain⟨v,o,ho,_⟩:=I.cell x c e
  rw [z] at ho
  exact absurd (Nat.lt_of_lt_of_le (Heap.lt_size ho) h) (Nat.lt_irrefl _)
 ·obtain⟨e,_⟩:=I.pin p (List.mem_append_left _ hp)
  rw [z] at e
  exact absurd (Nat.lt_of_lt_of_le (Heap.lt_size e) h) (Nat.lt_irrefl _)
theorem Inv.wr (I:Inv X pins σ H s) (hm:(a,o) ∈ pins) (O:Own X a) (hs:Heap.SameBut a s.heap h') (e:h'.get? a=some o') (hd:∀v,o'.data≠.cell v) (hp:∀p ∈ pins',(p ∈ pins/\p.1≠a)\/p=(a,o')):
  Inv X pins' σ H { s with heap:=h',toks:=tk }:=by
 obtain⟨_,n,_⟩:=I.pin (a,o) (List.mem_append_right _ hm)
 have I0:Inv X [] σ H s:=I.pins_of fun p hp=>absurd hp (by simp)
 have I1:=I0.turned (h':=h') (t':=tk) (it:=a) (fun b u ne g=>(hs.2 b ne).trans g) n O.neL (.inr O.up) O.neC (fun p hp=>O.neP p (by simpa using hp))
 refine I1.pins_of fun p hq=>?_
 rcases hp p hq with ⟨hq,ne⟩|rfl
 ·obtain⟨g,n',nl,nf,d⟩:=I.pin p (List.mem_append_right _ hq)
  exact⟨(hs.2 _ ne).trans g,n',nl,nf,d⟩
 ·exact⟨e,n,O.neL,O.nfs,hd⟩
theorem Inv.pinAt (I:Inv X pins σ H s) (hm:(a,o) ∈ pins):s.heap.get? a=some o:=(I.pin (a,o) (List.mem_append_right _ hm)).1
theorem Inv.pinIn (I:Inv X pins σ H s) (hm:(a,o) ∈ pins):s.heap.get? a=some o/\H a=none/\a≠X.env.locals/\a ∉ X.fs/\∀v,o.data≠.cell v:=I.pin (a,o) (List.mem_append_right _ hm)
theorem gX {T:String} {xs:Array Value} {n:Nat}:∀v,(seqObj T xs n).data≠.cell v:=fun v z=>by cases z
end
section
variable {X:Cx} {pins:List (Addr × Obj)} {σ:St} {H:Hp} {s:Shared} {A':Around} {E:Value->Shared->Prop} {D kS f:Addr} {vs:List Value} {xs:List V} {kz:List Int} {keys:Array Value} {e e1 n:Nat} {J:Hp->Prop} {P:PySem.Fin->Shared->Prop}
theorem wS {st:SortSt} (I:Inv X ((kS,seqObj "list" keys e)::(D,seqObj "list" #[] e1)::pins) σ H s) (hJ:J H) (OD:Own X D) (Ok:Own X kS) (ne:kS≠D) (pk:∀p ∈ pins,p.1≠kS) (pD:∀p ∈ pins,p.1≠D)
  (hk:IntsAre keys.toList kz) (hlen:kz.length=vs.length) (hz:vs.length<=sizeLine) (hp:(arrOf st).Perm (keys.zip vs.toArray)) (hs:SortedTo (arrOf st) (arrOf st).size) (hfl:failedOf st=none)
  (h:∀s' H' (os:List Value) c,Inv X ((D,seqObj "list" os.toArray c)::pins) σ H' s'->J H'->KskOut false kz vs os->P (.done (.ret .none)) s'):
  wpAny (model X.prog X.w) A' (ksk_tail D false e1 (.ref kS) st) P E s:=by
 have nk:=I.pinAt (a:=kS) (o:=seqObj "list" keys e) (by simp)
 have na:=I.pinAt (a:=D) (o:=seqObj "list" #[] e1) (by simp)
 have hsz:keys.size=vs.length:=by
  have h1:=hk.length
  rw [Array.length_toList] at h1
  omega
 have hsz2:(arrOf st).size=vs.length:=by rw [hp.size_eq,Array.size_zip,hsz,List.size_toArray,Nat.min_self]
 have s1:=Heap.SameBut.update s.heap kS (Obj.mapSeq fun _=>(#[]:Array Value))
 have na1:(s.heap.update kS (Obj.mapSeq fun _=>(#[]:Array Value))).get? D=some (seqObj "list" #[] e1):=(s1.2 D ne.symm).trans na
 have s2:=Heap.SameBut.update (s.heap.update kS (Obj.mapSeq fun _=>(#[]:Array Value))) D (Obj.mapSeq fun _=>(arrOf st).map (·.2))
 obtain⟨c1,hc1⟩:∃c1,(s.heap.update kS (Obj.mapSeq fun _=>(#[]:Array Value))).get? kS=some (seqObj "list" #[] c1):=⟨_,get?_update_seq nk fun _=>#[]⟩
 obtain⟨c2,hc2⟩:∃c2,((s.heap.update kS (Obj.mapSeq fun _=>(#[]:Array Value))).update D (Obj.mapSeq fun _=>(arrOf st).map (·.2))).get? D=some (seqObj "list" ((arrOf st).map (·.2)) c2):=
  ⟨_,get?_update_seq na1 fun _=>(arrOf st).map (·.2)⟩
 unfold ksk_tail
 try dsimp only
 refine wpAny_bind (listUpdate_at nk rfl ?_ (by rw [hsz];exact hz) (Nat.zero_le _))
 refine wpAny_bind (wpAny_letGo ?_)
 refine wpAny_bind (seqEpoch_at na1 rfl ?_)
 refine wpAny_bind (listUpdate_at na1 rfl ?_ (Nat.zero_le _) (by simp only [Bool.false_eq_true,if_false,Array.size_map];omega))
 rw [hfl]
 simp only [bne_self_eq_false,Bool.false_eq_true,if_false]
 have I1:=I.wr (a:=kS) (o:=seqObj "list" keys e) (tk:=s.toks) (pins':=(D,seqObj "list" #[] e1)::pins) (by simp) Ok s1 hc1 gX fun p hp=>.inl ⟨List.mem_cons_of_mem _ hp,by
  rcases List.mem_cons.mp hp with rfl|hp
  ·exact ne.symm
  ·exact pk p hp⟩
 have I2:=I1.wr (a:=D) (o:=seqObj "list" #[] e1) (tk:=s.toks) (pins':=(D,seqObj "list" ((arrOf st).map (·.2)) c2)::pins) (by simp) OD s2 hc2 gX fun p hp=>by
  rcases List.mem_cons.mp hp with rfl|hp
  ·exact .inr rfl
  ·exact .inl ⟨List.mem_cons_of_mem _ hp,pD p hp⟩
 have ko:=ksk_out (b:=false) hk hp hs
 refine wpAny_pure (h _ H ((arrOf st).map (·.2)).toList c2 (by rw [Array.toArray_toList];exact I2) hJ ?_)
 simpa using ko
theorem sl64 {n:Nat} (h:n<64):n<=sizeLine:=by have:=sizeLine_eq;omega
theorem key_end (I:Inv X ((kS,seqObj "list" keys e)::(D,seqObj "list" #[] e1)::pins) σ H s) (hJ:J H) (OD:Own X D) (Ok:Own X kS) (ne:kS≠D) (pk:∀p ∈ pins,p.1≠kS) (pD:∀p ∈ pins,p.1≠D)
  (hk:IntsAre keys.toList kz) (hlen:kz.length=vs.length) (hz:vs.length<64)
  (h:∀s' H' (os:List Value) c,Inv X ((D,seqObj "list" os.toArray c)::pins) σ H' s'->J H'->KskOut false kz vs os->P (.done (.ret .none)) s'):
  wpAny (model X.prog X.w) A' (ksk_end D false vs.toArray e1 (.ref kS) keys) P E s:=by
 have hsz:keys.size=vs.length:=by
  have h1:=hk.length
  rw [Array.length_toList] at h1
  omega
 have hzs:(keys.zip vs.toArray).size=vs.length:=by rw [Array.size_zip,hsz,List.size_toArray,Nat.min_self]
 unfold ksk_end
 simp only [Bool.false_eq_true,if_false]
 by_cases h2:vs.toArray.size<2
 ·rw [if_pos h2,if_pos h2]
  refine wpAny_bind (wpAny_pure ?_)
  rw [StateT.run_pure]
  refine wpAny_bind (wpAny_pure ?_)
  try dsimp only
  refine wS (st:=SortSt.mk' general' (keys.zip vs.toArray) #[] 7 none) I hJ OD Ok ne pk pD hk hlen (sl64 hz) (Array.Perm.refl _) ?_ rfl h
  intro i j hij hj
  have hj2:j<(keys.zip vs.toArray).size:=hj
  rw [hzs] at hj2
  rw [List.size_toArray] at h2
  have:i=j:=by omega
  subst this
  exact Int.le_refl _
 ·rw [if_neg h2,if_neg h2]
  rw [List.size_toArray] at h2
  rw [ksk_kind hk (by rw [hsz];omega)]
  refine wpAny_bind (wpAny_pure ?_)
  refine wpAny_bind (wpAny_mono (wpS_sortRuns (a₀:=keys.zip vs.toArray) (st:=SortSt.mk' oneType' (keys.zip vs.toArray) #[] 7 none)
   (Q:=fun _ st'=>(arrOf st').Perm (keys.zip vs.toArray)/\failedOf st'=none/\SortedTo (arrOf st') (keys.zip vs.toArray).size)
   (ksk_intKeys hk) ⟨Array.Perm.refl _,rfl,rfl,rfl⟩ (by rw [hzs];omega) (by rw [hzs];exact hz) fun st' p f s=>⟨p,f,s⟩) ?_ fun _ _ e=>e)
  rintro⟨⟨⟩,st'⟩ s' ⟨rfl,hp,hf,hs⟩
  try dsimp only
  exact wS I hJ OD Ok ne pk pD hk hlen (sl64 hz) hp (by rw [hp.size_eq];exact hs) hf h
theorem AgJ (I:Inv X ((kS,seqObj "list" #[] 0)::(D,seqObj "list" #[] e1)::pins) σ H s) (hJ:J H) (OD:Own X D) (Ok:Own X kS) (ne:kS≠D) (pk:∀p ∈ pins,p.1≠kS) (pD:∀p ∈ pins,p.1≠D)
  (rv:cE xs vs) (hlen:kz.length=vs.length) (hz:vs.length<64)
  (turn:∀(pins':List (Addr × Obj)) (H':Hp) (s':Shared) (i:Nat) (x:V) (v:Value) (k:Int),Inv X pins' σ H' s'->J H'->xs[i]?=some x->kz[i]?=some k->cK x v->wpAny (model X.prog X.w) A' (call (.ref f) [v]) (EP X pins' σ fun y H''=>y=.int k/\J H'') (fun _ _=>False) s')
  (h:∀s' H' (os:List Value) c,Inv X ((D,seqObj "list" os.toArray c)::pins) σ H' s'->J H'->KskOut false kz vs os->P (.done (.ret .none)) s'):
  wpAny (model X.prog X.w) A' (ksk_rest D (.ref f) false vs.toArray e1 (.ref kS)) P E s:=by
 unfold ksk_rest
 refine wpAny_bind (wpAny_rule ?_)
 first
  | rw [List.forIn_toArray]
  | (rw [<- Array.forIn_toList];simp only [List.toList_toArray])
  | rw [<- Array.forIn_toList]
 refine wpAny_bind (ksk_fold (fun i s'=>∃H' kA e,Inv X ((kS,seqObj "list" kA e)::(D,seqObj "list" #[] e1)::pins) σ H' s'/\J H'/\IntsAre kA.toList (kz.take i)) vs 0 s
  ⟨H,#[],0,I,hJ,by simpa using IntsAre.nil⟩ ?step ?done)
 case step=>
  rintro j v s' hv ⟨H',kA,e,I',hJ',hk⟩
  simp only [Nat.zero_add] at hk ⊢
  have hj:j<vs.length:=(List.getElem?_eq_some_iff.mp hv).1
  obtain⟨k,hkj⟩:∃k,kz[j]?=some k:=⟨_,List.getElem?_eq_getElem (by omega)⟩
  obtain⟨x,hx,rx⟩:∃x,xs[j]?=some x/\cK x v:=by
   have ll:=rv.length
   obtain⟨u,hu,r⟩:=rv.get (List.getElem?_eq_getElem (show j<xs.length by omega))
   rw [hv] at hu
   cases hu
   exact⟨_,List.getElem?_eq_getElem (by omega),r⟩
  have hz':kA.size<=vs.length:=by
   have h1:=hk.length
   rw [Array.length_toList,List.length_take] at h1
   omega
  refine wpAny_bind (wpAny_attempt (wpAny_mono (turn _ H' s' j x v k I' hJ' hx hkj rx) (fun u s'' he=>?_) fun _ _ hF=>hF.elim))
  obtain⟨y,H2,I2,ry,rfl,hJ2⟩:=he
  obtain⟨t2,rfl⟩:∃t,u=.int k t:=ry
  try dsimp only
  have nk:=I2.pinAt (a:=kS) (o:=seqObj "list" kA e) (by simp)
  have s1:=Heap.SameBut.update s''.heap kS (Obj.mapSeq (·.push (.int k t2)))
  obtain⟨c2,hc2⟩:∃c2,(s''.heap.update kS (Obj.mapSeq (·.push (.int k t2)))).get? kS=some (seqObj "list" (kA.push (.int k t2)) c2):=⟨_,get?_update_seq nk (·.push (.int k t2))⟩
  have ek:kz.take (j+1)=kz.take j++[k]:=by rw [List.take_add_one,hkj];simp
  have ea:(kA.push (Value.int k t2)).toList=kA.toList++[Value.int k t2]:=by simp
  have slz:=sizeLine_eq
  refine wpAny_bind (listUpdate_at nk rfl ?_ (by omega) (Nat.le_trans (Nat.le_of_eq (Array.size_push ..)) (by omega)))
  refine wpAny_pure ⟨rfl,H2,kA.push (.int k t2),c2,I2.wr (a:=kS) (o:=seqObj "list" kA e) (tk:=s''.toks) (by simp) Ok s1 hc2 gX (fun p hp=>?_),hJ2,by rw [ea,ek];exact ksk_snoc hk⟩
  rcases List.mem_cons.mp hp with rfl|hp
  ·exact .inr rfl
  ·refine .inl ⟨List.mem_cons_of_mem _ hp,?_⟩
   rcases List.mem_cons.mp hp with rfl|hp
   ·exact ne.symm
   ·exact pk p hp
 case done=>
  rintro s' ⟨H',kA,e,I',hJ',hk⟩
  have hk':IntsAre kA.toList kz:=by
   have e3:kz.take (0+vs.length)=kz:=List.take_of_length_le (by omega)
   rw [e3] at hk
   exact hk
  have nk:=I'.pinAt (a:=kS) (o:=seqObj "list" kA e) (by simp)
  try dsimp only
  refine wpAny_bind (listItems_at nk rfl ?_)
  exact key_end I' hJ' OD Ok ne pk pD hk' hlen hz h
theorem AeA (I:Inv X ((D,seqObj "list" vs.toArray n)::pins) σ H s) (hJ:J H) (OD:Own X D) (pD:∀p ∈ pins,p.1≠D) (rv:cE xs vs) (hlen:kz.length=vs.length) (hz:vs.length<64)
  (turn:∀(pins':List (Addr × Obj)) (H':Hp) (s':Shared) (i:Nat) (x:V) (v:Value) (k:Int),Inv X pins' σ H' s'->J H'->xs[i]?=some x->kz[i]?=some k->cK x v->wpAny (model X.prog X.w) A' (call (.ref f) [v]) (EP X pins' σ fun y H''=>y=.int k/\J H'') (fun _ _=>False) s')
  (h:∀s' H' (os:List Value) c,Inv X ((D,seqObj "list" os.toArray c)::pins) σ H' s'->J H'->KskOut false kz vs os->P (.done (.ret .none)) s'):
  wpAny (model X.prog X.w) A' (ksk_tree D (.ref f) false) P E s:=by
 have ho:=I.pinAt (a:=D) (o:=seqObj "list" vs.toArray n) (by simp)
 have ha:D<s.heap.objs.size:=Heap.lt_size ho
 have s1:=Heap.SameBut.update s.heap D (Obj.mapSeq fun _=>(#[]:Array Value))
 obtain⟨e1,ho1⟩:∃e1,(s.heap.update D (Obj.mapSeq fun _=>(#[]:Array Value))).get? D=some (seqObj "list" #[] e1):=⟨_,get?_update_seq ho fun _=>#[]⟩
 have I1:=I.wr (a:=D) (o:=seqObj "list" vs.toArray n) (tk:=s.toks) (pins':=(D,seqObj "list" #[] e1)::pins) (by simp) OD s1 ho1 gX fun p hp=>by
  rcases List.mem_cons.mp hp with rfl|hp
  ·exact .inr rfl
  ·exact .inl ⟨List.mem_cons_of_mem _ hp,pD p hp⟩
 have I2:=I1.kept (h':=(s.heap.update D (Obj.mapSeq fun _=>(#[]:Array Value))).push (seqObj "tuple" vs.toArray 0)) (t':=s.toks) fun b u g=>Heap.get?_push_of_some _ g
 have I3:=I2.kept (h':=((s.heap.update D (Obj.mapSeq fun _=>(#[]:Array Value))).push (seqObj "tuple" vs.toArray 0)).push (seqObj "list" #[] 0)) (t':=s.toks) fun b u g=>Heap.get?_push_of_some _ g
 have Ok:=Own.of I2 (Nat.le_refl _)
 have nH:H ((s.heap.update D (Obj.mapSeq fun _=>(#[]:Array Value))).push (seqObj "tuple" vs.toArray 0)).objs.size=none:=I2.hok.fresh (Nat.le_refl _)
 have lt2:∀p ∈ (D,seqObj "list" #[] e1)::pins,p.1<((s.heap.update D (Obj.mapSeq fun _=>(#[]:Array Value))).push (seqObj "tuple" vs.toArray 0)).objs.size:=fun p hp=>Heap.lt_size (I2.pinAt (a:=p.1) (o:=p.2) hp)
 unfold ksk_tree
 refine wpAny_bind (listItems_at ho rfl ?_)
 refine wpAny_bind (listUpdate_at ho rfl ?_ (by rw [List.size_toArray];exact sl64 hz) (Nat.zero_le _))
 refine wpAny_bind (seqEpoch_at ho1 rfl ?_)
 refine wpAny_bind (wpAny_newTuple ?_ (sl64 hz))
 refine wpAny_bind (wpAny_newList ?_ (Nat.zero_le _))
 refine wpAny_holding ?_
 refine AgJ (e1:=e1) (I3.pins_of fun p hp=>?_) hJ OD Ok (Nat.ne_of_gt (lt2 (D,seqObj "list" #[] e1) (by simp))) (fun p hp=>Nat.ne_of_lt (lt2 p (List.mem_cons_of_mem _ hp))) pD rv hlen hz turn h
 rcases List.mem_cons.mp hp with rfl|hp
 ·exact⟨Heap.get?_push_size _ rfl,nH,Ok.neL,Ok.nfs,gX⟩
 ·exact I3.pinIn (a:=p.1) (o:=p.2) hp
end
def eK (v d:Addr):HO:=.ext fun h=>h.IsValuesView v d
theorem AdU {P:Program} {w:World} {H:Hp} {h:Heap} {v d:Addr} (x:h.IsValuesView v d):cL P w H h v (eK v d):=⟨x,let ⟨o,e,_⟩:=x;⟨o,e⟩,fun h1 h2 ⟨o,e,r⟩ k=>⟨o,k o e,r⟩⟩
def Itv (a:Addr) (o:Obj) (kvs:List (Key × V)):It:=
 ⟨fun i H=>H a=some (.frz o (.dK kvs))/\i<kvs.length,fun i H x H'=>H'=H/\∃e,kvs[i]?=some e/\x=e.2,fun i H=>H a=some (.frz o (.dK kvs))/\kvs.length<=i⟩
theorem KV.at {kvs:List (Key × V)} {vs:List (Key × Value)} (r:KV kvs vs) {i:Nat} {k:Key} {v:Value} (e:vs[i]?=some (k,v)):∃p,kvs[i]?=some p/\cK p.2 v:=by
 induction r generalizing i with
 | nil=>simp at e
 | cons h t ih=>
  cases i with
  | zero=>
   simp only [List.getElem?_cons_zero,Option.some.injEq] at e
   subst e
   exact⟨_,rfl,h.2⟩
  | succ i=>
   simp only [List.getElem?_cons_succ] at e ⊢
   exact ih e
theorem AbZ {P:Program} {hd0:Option Value} {w:World} {K:PySem.W.Frag} {tg:Expr} (a it:Addr) (o:Obj) (kvs:List (Key × V)) {es:Array DictEntry} {ep:Nat} (hd:o.data=.dict es ep) (e0:hd0=none):xL P w K hd0 tg (Itv a o kvs) [it] it (fun i h=>h.IsValIter it a i kvs.length ep) where
 mem:=by simp
 obj:=fun i h st b hb=>by
  have e:b=it:=by simpa using hb
  subst e
  obtain⟨o,e,c,d⟩:=st
  exact⟨o,e,fun v z=>by rw [d] at z;cases z⟩
 keep:=fun i h h' ⟨o,e,r⟩ k=>⟨o,k it (by simp) o e,r⟩
 item:=by
  intro X hP hw hK hc i pins s σ H E I hf st hg
  subst hP hw hK
  obtain⟨e,hi⟩:=hg
  obtain⟨vs,r,dt⟩:=AbM I e hd
  have hl:=r.length
  obtain⟨f0,f1,f2,f3,f4,f5⟩:=hf it (by simp)
  obtain⟨⟨k,v⟩,hv⟩:∃p,vs[i]?=some p:=⟨vs[i],List.getElem?_eq_getElem (by omega)⟩
  refine wpAny_pyNext_values_item (by rw [<- hl];exact st) dt hv fun h' st' sb=>?_
  have I1:Inv X pins σ H { s with heap:=h' }:=I.turned (t':=s.toks) (fun b o hb e=>(sb.2 b hb).trans e) f0 f1 f3 f4 f5
  obtain⟨oi,ei,ci,di⟩:=id st'
  obtain⟨p,hp,rp⟩:=KV.at r hv
  refine⟨v,rfl,wV (s:={ s with heap:=h' }) ei ci di (by decide) ⟨p.2,H,I1,rp,⟨rfl,p,hp,rfl⟩,by rw [hl];exact st',fun b hb=>(hf b hb).1⟩⟩
 done:=by
  intro X hP hw hK hc i pins s σ H E I hf st hg
  subst hP hw hK
  obtain⟨e,hi⟩:=hg
  obtain⟨vs,r,dt⟩:=AbM I e hd
  have hl:=r.length
  obtain⟨f0,f1,f2,f3,f4,f5⟩:=hf it (by simp)
  exact wpAny_pyNext_values_end (hc.trans e0) (by rw [<- hl];exact st) dt (List.getElem?_eq_none (by omega)) fun h' eb=>⟨rfl,I.turned (t':=s.toks) (fun b o hb e=>eb b o hb e) f0 f1 f3 f4 f5⟩
 self:=fun _ _ _ _ _ st h=>wpAny_pyIter_valiter st h
section
variable {X:Cx} {tg:Expr}
def rVals:V->List V->Hp->VK->Prop:=fun x vs H Q=>∃a kvs,x=.ref a/\vs=[]/\H a=some (.dK kvs)/\∀v,H v=none->Q (.ref v) (upd H v (eK v a))
theorem AcV:MtR X "dict.values" rVals:=by
 intro pins s σ H x vs v us Q I rx rv h
 obtain⟨a,kvs,rfl,rfl,hH,q⟩:=h
 cases rx
 have hus:=rv.zero
 subst hus
 obtain⟨hz,hS,vs',r,dk⟩:=(show cL X.prog X.w H s.heap a (.dK kvs) from I.hok a _ hH)
 refine call_meetsIn PySem.F.slot_dict_values dk.typeIs PySem.F.entry_dict_values (PySem.F.args_dict_values_1 _) (meets_dict_values (cY X.prog X.w) a hS) ⟨⟨vs',dk⟩,?_⟩
 have hf:H s.heap.objs.size=none:=I.hok.fresh (Nat.le_refl _)
 exact⟨.ref s.heap.objs.size,_,I.laid (a:=s.heap.objs.size) (t':=s.toks) (fun b u e=>Heap.get?_push_of_some _ e) (Nat.le_refl _) (AdU ⟨_,Heap.get?_push_size _ rfl,rfl,rfl⟩),rfl,q _ hf⟩
theorem oY {o:Expr} {to:TE} {apos cpos:Pos} (ho:PE X o to) (hbase:attributeBase o "values" X.env (eval o X.env)=eval o X.env:=by rfl) (hline:(apos.endLine == cpos.line)=true:=by rfl):PE X (.Call (.Attribute o "values" apos) [] [] cpos) (tBM0 X.K "dict" rVals to):=
 AfB PySem.F.plainAttrs_dict PySem.F.slot_dict_values PySem.F.type_dict_values AcV ho hbase hline
def iVals (tl:TE):TI:=fun σ H R=>tl σ H fun x H1=>∃v a kvs,x=.ref v/\H1 v=some (eK v a)/\H1 a=some (.dK kvs)/\∀o,R (Itv a o kvs) (upd H1 a (.frz o (.dK kvs)))
theorem uP {l:Expr} {tl:TE} (hl:PE X l tl) (hc0:X.calm=true:=by rfl):PI X tg l (iVals tl):=by
 intro pins s σ H R I h
 refine thn (hl s σ H _ I h) fun u s1 ⟨x,H1,I1,r1,q1⟩=>?_
 obtain⟨v,a,kvs,e,hv,hq,q⟩:=q1
 subst e
 cases r1
 obtain⟨view,_,_⟩:=I1.hok v _ hv
 have view:s1.heap.IsValuesView v a:=view
 obtain⟨o,ho,I2⟩:=I1.freeze hq
 obtain⟨hz,hS,vs,r,o',es,ep,g,c,d,k1,k2,k3⟩:=(show cL X.prog X.w H1 s1.heap a (.dK kvs) from I1.hok a _ hq)
 rw [ho] at g
 cases g
 refine wpAny_pyIter_values (knd:=cY X.prog X.w) (kvs:=vs) (ep:=ep) view ⟨o,es,ho,c,d,k1,k2,k3⟩ ?_
 refine⟨s1.heap.objs.size,[s1.heap.objs.size],_,_,_,rfl,I2.kept (t':=s1.toks) fun b o e=>Heap.get?_push_of_some _ e,AbZ a _ o kvs d (I.ok.hd hc0),?_,fun b hb=>?_,q o⟩
 ·exact⟨_,Heap.get?_push_size _ rfl,rfl,by rw [r.length];rfl⟩
 ·have e:b=s1.heap.objs.size:=by simpa using hb
  subst e
  exact I2.fpOk (Nat.le_refl _) (I2.hok.fresh (Nat.le_refl _))
theorem AgR {a:Addr} {o:Obj} {kvs:List (Key × V)} {g:TG} {tb:TS} {D:jI} {σ:St} {H:Hp} (Pv:Nat->St->Hp->Prop) (h0:Pv 0 σ H) (hl:∀i σ H,i<=kvs.length->Pv i σ H->H a=some (.frz o (.dK kvs)))
  (hs:∀i e σ H,kvs[i]?=some e->Pv i σ H->g e.2 σ H fun σ2 H2=>tb { D with nx:=Pv (i+1),ct:=Pv (i+1),bk:=D.nx } σ2 H2) (hd:∀ σ H,Pv kvs.length σ H->D.nx σ H):
  ∃W:Nat->Nat->St->Hp->Prop,(∃m,W 0 m σ H)/\∀i m σ H,W i m σ H ->
   ((Itv a o kvs).stop i H/\D.nx σ H)\/((Itv a o kvs).go i H/\∃N:St->Hp->Prop,(∀ σ' H',N σ' H'->∃m',m'<m/\W (i+1) m' σ' H')/\∀x H',(Itv a o kvs).yld i H x H'->g x σ H' fun σ2 H2=>tb { D with nx:=N,ct:=N,bk:=D.nx } σ2 H2):=by
 refine⟨fun i m σ H=>m=kvs.length-i/\i<=kvs.length/\Pv i σ H,⟨kvs.length,by simp,Nat.zero_le _,h0⟩,?_⟩
 rintro i m σ H ⟨rfl,hi,p⟩
 have q:=hl i σ H hi p
 by_cases hlt:i<kvs.length
 ·refine .inr ⟨⟨q,hlt⟩,Pv (i+1),fun σ' H' p'=>⟨kvs.length-(i+1),by omega,rfl,hlt,p'⟩,fun x H' y=>?_⟩
  obtain⟨rfl,e,ee,rfl⟩:=y
  exact hs i e σ _ ee p
 ·have e:i=kvs.length:=by omega
  subst e
  exact .inl ⟨⟨q,Nat.le_refl _⟩,hd σ H p⟩
end
def AbX (X:Cx) (A':Around) (σ:St) (f:Addr) (J:Hp->Prop) (x:V) (φ:Hp->V->Hp->Prop):Prop:=∀(pins':List (Addr × Obj)) (H':Hp) (s':Shared) (v:Value),Inv X pins' σ H' s'->J H'->cK x v ->
 wpAny (model X.prog X.w) A' (call (.ref f) [v]) (EP X pins' σ fun y H''=>φ H' y H''/\J H'') (fun _ _=>False) s'
theorem AbE {X:Cx} {A':Around} {σ:St} {k:Nat} {f c':Addr} {q p:Str} {params:Arguments} {body:Expr} {scope:Scope} {pm ctv:Value} {N:List Str} {tb:TE} {J:Hp->Prop} {x:V} {φ:Hp->V->Hp->Prop}
  (hf:∀H',J H'->H' f=some (funO f (kla_obj "<lambda>" q params body scope [] pm c' ctv))) (hcd:∀H',J H'->H' c'=some (rH c' q)) (hA:X.A.frames=some X.stack->A'.frames=some X.stack) (hr:Room (k+1) A') (S:aP N [p] scope) (hb:∀u,bindArgs (kla_fn "<lambda>" q params body scope [] pm (.ref c') ctv) ⟨[u],[]⟩=pure [(p,u)])
  (hbody:∀(s:Shared) (H:Hp),Room k (A'.deeper (envOfC q scope s.heap.objs.size f (.ref c')))->PE (jV CX0 X.prog X.w X.K X.mg X.base N q scope f (.ref c') A' X.stack s H E0).nox body tb)
  (hJ:∀H',J H'->tb (dI N [x]) H' (fun y H''=>φ H' y H''/\J H'')):AbX X A' σ f J x φ:=by
 intro pins' H' s' v I j r
 have h1:=hf H' j
 have h2:=hcd H' j
 have h3:=hJ H' j
 have e0:=I.env0
 have e1:rP X.prog X.w X.K X.mg X.base A' X.stack s' H':=⟨hA I.ok.frames,e0.mod,e0.bs,e0.bsz,e0.funs,e0.frf,e0.hok,e0.bare⟩
 refine wpAny_call (codeAny_mono (lam_run (CX:=CX0) (E:=E0) (us:=[v]) (vs:=[x]) h1 h2 S hr e1 (hb v) (.cons r .nil) rfl fun hr'=>⟨tb,(hbody s' H' hr').nox,h3⟩) fun r s'' hq=>?_)
 cases r with
 | error e=>exact hq
 | ok fl=>
  cases fl with
  | ret u=>exact I.after hq
  | next=>exact False.elim hq
  | brk=>exact False.elim hq
  | cont=>exact False.elim hq
theorem Inv.track {X:Cx} {pins:List (Addr × Obj)} {σ:St} {H:Hp} {s:Shared} {D:Addr} {o:Obj} {u:HO} (I:Inv X ((D,o)::pins) σ H s) (O:Own X D) (pD:∀p ∈ pins,p.1≠D) (new:cL X.prog X.w (upd H D u) s.heap D u):Inv X pins σ (upd H D u) s:=by
 have n:H D=none:=(I.pinIn (a:=D) (o:=o) (by simp)).2.1
 have I0:Inv X pins σ H s:=I.pins_of fun p hp=>I.pinIn (a:=p.1) (o:=p.2) (List.mem_cons_of_mem _ hp)
 have at':∀b v,H b=some v->(upd H D u) b=some v:=fun b v e=>by rw [aG (aF e n)];exact e
 refine I0.step (h':=s.heap) (g':=s.gens) (t':=s.toks) (d':=s.drawn) (ch:=[D]) (fun b hb=>?_) (fun b o _ _ _ e _=>e) (fun b o _ _ _ e _=>⟨o.slots,e⟩) (fun b o hb e z=>?_) (fun b o _ e=>⟨o,e⟩) (fun b xs e=>at' b _ e) (fun b o v e=>at' b _ e) (fun b ps e=>⟨#[],by rw [at' b _ e];simp⟩) (fun m z=>z) (fun b v e=>?_) I0.bare
 ·have z:b=D:=by simpa using hb
  subst z
  refine⟨.inr O.up,O.neL,O.neC,fun p hp=>?_⟩
  rcases List.mem_append.mp hp with hp|hp
  ·exact O.neP p hp
  ·exact pD p hp
 ·rw [aG (fun y=>hb (by simp [y]))]
  exact z
 ·by_cases hb:b=D
  ·subst hb
   rw [aD] at e
   cases e
   exact new
  ·rw [aG hb] at e
   exact(I0.hok b v e).stay (fun c w' _ r=>r) (fun c z=>at' c _ z) fun c xs z=>at' c _ z
theorem qK {α β:Type} (g:α->β):∀{ps:List β} {L:List α},ps.Perm (L.map g)->∃L':List α,L'.Perm L/\ps=L'.map g
 | [],L,h=>by
  have:L.map g=[]:=List.perm_nil.mp h.symm
  exact⟨[],by rw [List.map_eq_nil_iff.mp this],rfl⟩
 | a::ps,L,h=>by
  obtain⟨l,hl,rfl⟩:=List.mem_map.mp (h.mem_iff.mp (List.mem_cons_self ..))
  obtain⟨L1,L2,rfl⟩:=List.append_of_mem hl
  have e:(L1++l::L2).Perm (l::(L1++L2)):=List.perm_middle
  have h2:(g l::ps).Perm (g l::(L1++L2).map g):=h.trans (by simpa using e.map g)
  obtain⟨L',p1,p2⟩:=qK g h2.cons_inv
  exact⟨l::L',(p1.cons l).trans e.symm,by rw [List.map_cons,p2]⟩
def ByKey (kz:List Int) (xs ys:List V):Prop:=∃ps:List (Int × V),ps.Perm (kz.zip xs)/\ys=ps.map (·.2)/\ps.Pairwise (fun p q=>p.1<=q.1)
theorem vL:∀{xs:List V} {vs:List Value},cE xs vs->∀p ∈ xs.zip vs,cK p.1 p.2
 | _,_,.nil,p,hp=>by simp at hp
 | _,_,.cons r t,p,hp=>by
  rcases List.mem_cons.mp (by simpa using hp) with rfl|hp
  ·exact r
  ·exact vL t p hp
theorem AaD:∀{L:List (V × Value)},(∀p ∈ L,cK p.1 p.2)->cE (L.map (·.1)) (L.map (·.2))
 | [],_=>.nil
 | p::L,h=>.cons (h p (List.mem_cons_self ..)) (AaD fun q hq=>h q (List.mem_cons_of_mem _ hq))
theorem AhK {kz:List Int} {xs:List V} {vs os:List Value} (rv:cE xs vs) (h:KskOut false kz vs os):∃ys,cE ys os/\ByKey kz xs ys:=by
 obtain⟨ps,p1,rfl,p3⟩:=h
 have ll:=rv.length
 have e1:(kz.zip (xs.zip vs)).map (fun t=>(t.1,t.2.2))=kz.zip vs:=by
  have:(xs.zip vs).map (·.2)=vs:=List.map_snd_zip (by omega)
  conv=>rhs;rw [<- this]
  rw [List.zip_map_right]
  rfl
 have e2:(kz.zip (xs.zip vs)).map (fun t=>(t.1,t.2.1))=kz.zip xs:=by
  have:(xs.zip vs).map (·.1)=xs:=List.map_fst_zip (by omega)
  conv=>rhs;rw [<- this]
  rw [List.zip_map_right]
  rfl
 rw [<- e1] at p1
 obtain⟨L,l1,rfl⟩:=qK _ p1
 refine⟨L.map (·.2.1),?_,L.map (fun t=>(t.1,t.2.1)),by rw [<- e2];exact l1.map _,by rw [List.map_map];rfl,?_⟩
 ·have:=AaD (L:=L.map (·.2)) fun p hp=>by
   obtain⟨t,ht,rfl⟩:=List.mem_map.mp hp
   exact vL rv t.2 (List.of_mem_zip (l1.mem_iff.mp ht)).2
  rw [List.map_map,List.map_map] at this
  rw [List.map_map]
  exact this
 ·rw [List.pairwise_map] at p3 ⊢
  exact p3.imp fun h=>by simpa using h
theorem AbF:∀{kvs:List (Key × V)} {vs:List (Key × Value)},KV kvs vs->cE (kvs.map (·.2)) (vs.map (·.2))
 | _,_,.nil=>.nil
 | _,_,.cons h t=>.cons h.2 (AbF t)
section
variable {X:Cx}
def AeQ (X:Cx) (σ:St):List V->List V->Hp->VK->Prop:=fun xs ds H Q=>∃(v a f:Addr) (kvs:List (Key × V)) (kz:List Int) (J:Hp->Prop),xs=[.ref v]/\ds=[.ref f]/\H v=some (eK v a)/\H a=some (.dK kvs)/\J H/\kz.length=kvs.length/\kvs.length<64 /\
 (∀(i:Nat) (e:Key × V) (k:Int),kvs[i]?=some e->kz[i]?=some k->AbX X X.A.in1.in1 σ f J e.2 fun _ y _=>y=.int k)/\∀l ys H',J H'->H' l=none->ByKey kz (kvs.map (·.2)) ys->Q (.ref l) (upd H' l (.lst ys))
theorem zU (hc:X.calm=true) {pins:List (Addr × Obj)} {s:Shared} {σ:St} {H:Hp} {xs ds:List V} {us ws:List Value} {Q:VK} (I:Inv X pins σ H s) (r:cE xs us) (rd:cE ds ws) (h:AeQ X σ xs ds H Q):
  wpAny (model X.prog X.w) X.A (call (.builtin "sorted") us ([("key":Str)].zip ws)) (EP X pins σ Q) X.xe s:=by
 obtain⟨v,a,f,kvs,kz,J,rfl,rfl,hv,ha,hJ,hkl,h64,hkey,q⟩:=h
 obtain⟨u,rfl,ru⟩:=r.one
 cases ru
 obtain⟨u',rfl,ru'⟩:=rd.one
 cases ru'
 obtain⟨view,_,_⟩:=I.hok v _ hv
 have view:s.heap.IsValuesView v a:=view
 obtain⟨hz,hS,vs,rkv,o',es,ep,g,c,d,k1,k2,k3⟩:=(show cL X.prog X.w H s.heap a (.dK kvs) from I.hok a _ ha)
 have ln:=rkv.length
 show wpAny _ _ (call (.builtin "sorted") [.ref v] [(Str.ofString "key",.ref f)]) _ _ _
 refine call_function_entry_kw kind_sorted plain_sorted entry_sorted (ksk_s1 _ _) ?_
 unfold Builtin.«sorted»
 refine wpAny_bind (m:=checkCount "sorted" 1 1 _) (wpAny_pure ?_)
 refine wpAny_bind (kdu_collect (kdl_values (knd:=cY X.prog X.w) (kvs:=vs) (ep:=ep)) (by simpa using I.ok.hd hc) ⟨view,o',es,g,c,d,k1,k2,k3⟩ (by omega) fun h' tk acc hk hacc=>?_)
 have av:acc.toList=vs.map (·.2):=kdl_vals_eq _ (by rw [Array.length_toList];exact hacc.1) fun j x hx=>hacc.2 j x (by rw [<- Array.getElem?_toList];exact hx)
 rw [av]
 have I1:Inv X pins σ H { s with heap:=h',toks:=tk }:=I.kept hk
 have rv:cE (kvs.map (·.2)) (vs.map (·.2)):=AbF rkv
 have lv:(vs.map (·.2)).length<=sizeLine:=by rw [List.length_map];omega
 refine wpAny_bind (wpAny_newList ?_ (by rw [List.length_map];omega))
 have OD:Own X h'.objs.size:=Own.of I1 (Nat.le_refl _)
 have nD:H h'.objs.size=none:=I1.hok.fresh (Nat.le_refl _)
 have I2:Inv X pins σ H { s with heap:=h'.push (seqObj "list" (vs.map (·.2)).toArray 0),toks:=tk }:=I1.kept fun b o e=>Heap.get?_push_of_some _ e
 have hoL:(h'.push (seqObj "list" (vs.map (·.2)).toArray 0)).get? h'.objs.size=some (seqObj "list" (vs.map (·.2)).toArray 0):=Heap.get?_push_size _ rfl
 have pD:∀p ∈ pins,p.1≠h'.objs.size:=fun p hp=>Nat.ne_of_lt (Heap.lt_size (I1.pinAt (a:=p.1) (o:=p.2) hp))
 have I3:Inv X ((h'.objs.size,seqObj "list" (vs.map (·.2)).toArray 0)::pins) σ H { s with heap:=h'.push (seqObj "list" (vs.map (·.2)).toArray 0),toks:=tk }:=I2.pins_of fun p hp=>by
  rcases List.mem_cons.mp hp with rfl|hp
  ·exact⟨hoL,nD,OD.neL,OD.nfs,gX⟩
  ·exact I2.pinIn (a:=p.1) (o:=p.2) hp
 refine wpAny_bind (wpAny_holding (wpAny_call_entry_kw slot_list_sort ⟨_,hoL,rfl⟩ entry_list_sort ?body (ksk_l1 _ _)))
 case body=>
  show wpAny (model X.prog X.w) X.A.in1.in1 (Builtin.«list.sort» ⟨[.ref h'.objs.size],[(Str.ofString "key",.ref f)]⟩) _ _ _
  rw [ksk_t1]
  refine AeA (kz:=kz) (J:=J) I3 hJ OD pD rv (by rw [List.length_map];omega) (by have:=rkv.length;rw [List.length_map];omega) (fun pins' H' s' i x v k I' j hx hk' rx=>?_) fun s' H' os c' I' j ko=>?_
  ·rw [List.getElem?_map] at hx
   cases hi:kvs[i]? with
   | none=>rw [hi] at hx;cases hx
   | some e=>
    rw [hi] at hx
    cases hx
    exact hkey i e k hi hk' pins' H' s' v I' j rx
  ·obtain⟨ys,ry,bk⟩:=AhK rv ko
   have ly:ys.length<=sizeLine:=by
    obtain⟨ps,p1,rfl,_⟩:=bk
    have:=p1.length_eq
    rw [List.length_zip,List.length_map] at this
    rw [List.length_map]
    omega
   have nD':H' h'.objs.size=none:=(I'.pinIn (a:=h'.objs.size) (o:=seqObj "list" os.toArray c') (by simp)).2.1
   have eD:=I'.pinAt (a:=h'.objs.size) (o:=seqObj "list" os.toArray c') (by simp)
   refine⟨.none,rfl,wpAny_pure ⟨.ref h'.objs.size,rfl,.ref h'.objs.size,_,I'.track (u:=.lst ys) OD pD ⟨ly,os,c',ry,eD⟩,rfl,q _ ys H' j nD' bk⟩⟩
def tSortK (X:Cx) (ta td:TA):TE:=fun σ H Q=>ta σ H fun xs H1=>td σ H1 fun ds H2=>AeQ X σ xs ds H2 Q
theorem AeW {x:Str} {p pos kpos:Pos} {a b:Expr} {ta td:TA} (hc:X.calm=true) (hg:Gl X x) (hm:X.mg x=none) (hv:bootBuiltins x=some (.builtin "sorted")) (ha:PA X [a] ta) (hd:PK X [⟨some "key",b,kpos⟩] td) (hn:x≠"__name__":=by decide) (hdb:(x == ("__debug__":Str))=false:=by decide)
  (hall:(backToKw pos (keywordEach [⟨some "key",b,kpos⟩] X.env)).all (·.1.isSome)=true:=by rfl) (hks:(backToKw pos (keywordEach [⟨some "key",b,kpos⟩] X.env)).filterMap (·.1)=[("key":Str)]:=by rfl)
  (he:starEach [a] X.env=(false,eval a X.env)::starEach [] X.env:=by rfl) (hpl:((backTo pos (starEach [a] X.env)).any (·.1) || (backToKw pos (keywordEach [⟨some "key",b,kpos⟩] X.env)).any (·.1.isNone))=false:=by rfl):
  PE X (.Call (.Name x p) [a] [⟨some "key",b,kpos⟩] pos) (tSortK X ta td):=by
 intro pins s σ H Q I h
 refine wpAny_Call_Name_kw (iN I hg hm hv ?_ hn hdb)
 refine PySem.W.callWith_of (P:=fun g=>X.K.In g) hpl (fun _ _=>⟨.machine,.inr (.inl rfl),.now⟩) (PyProof.Rows.evalArgs_kw2 hall (thn (ha pins s σ H _ I h) fun us s1 ⟨vs,H1,I1,r,q⟩=>?_) he)
 refine thn (hd pos pins s1 σ H1 _ I1 q) fun ws s2 ⟨zs,H2,I2,rz,q2⟩=>⟨I2.kIn,?_⟩
 rw [hks]
 exact zU hc I2 r rz q2
end
def ltP (p q:Int × Int):Prop:=p.1<q.1\/(p.1=q.1/\p.2<q.2)
instance (p q:Int × Int):Decidable (ltP p q):=by unfold ltP;infer_instance
theorem AdB (p q:Int × Int):HT.lexLt [p.1,p.2] [q.1,q.2]=decide (ltP p q):=by
 rw [Bool.eq_iff_iff,decide_eq_true_eq]
 simp only [HT.lexLt_cons,HT.lexLt_nil_nil,ltP]
 split
 ·split
  ·simp;omega
  ·simp;omega
 ·simp;omega
theorem AcZ {p q r:Int × Int} (h1:ltP p q) (h2:¬ ltP r q):ltP p r:=by
 unfold ltP at *
 omega
theorem ltP_not {p q r:Int × Int} (h1:ltP p q) (h2:¬ ltP r q):¬ ltP r p:=by
 unfold ltP at *
 omega
theorem AbD {p:Int × Int}:¬ ltP p p:=by
 unfold ltP
 omega
def KeyP (k:Int × Int):Hp->V->Hp->Prop:=fun H' y H''=>(∃t,y=.ref t/\H'' t=some (.tup [.int k.1,.int k.2]))/\∀b xs,H' b=some (.tup xs)->H'' b=some (.tup xs)
theorem Inv.wrK {X:Cx} {pins pins':List (Addr × Obj)} {σ:St} {H:Hp} {s:Shared} {a:Addr} {o o':Obj} {h':Heap} {tk:Nat} (I:Inv X pins σ H s) (hm:(a,o) ∈ pins) (O:Own X a) (hs:∀b u,b≠a->s.heap.get? b=some u->h'.get? b=some u) (e:h'.get? a=some o') (hd:∀v,o'.data≠.cell v) (hp:∀p ∈ pins',(p ∈ pins/\p.1≠a)\/p=(a,o')):
  Inv X pins' σ H { s with heap:=h',toks:=tk }:=by
 obtain⟨_,n,_⟩:=I.pin (a,o) (List.mem_append_right _ hm)
 have I0:Inv X [] σ H s:=I.pins_of fun p hp=>absurd hp (by simp)
 have I1:=I0.turned (h':=h') (t':=tk) (it:=a) (fun b u ne g=>hs b u ne g) n O.neL (.inr O.up) O.neC (fun p hp=>O.neP p (by simpa using hp))
 refine I1.pins_of fun p hq=>?_
 rcases hp p hq with ⟨hq,ne⟩|rfl
 ·obtain⟨g,n',nl,nf,d⟩:=I.pin p (List.mem_append_right _ hq)
  exact⟨hs _ _ ne g,n',nl,nf,d⟩
 ·exact⟨e,n,O.neL,O.nfs,hd⟩
theorem Inv.listAt {X:Cx} {pins:List (Addr × Obj)} {σ:St} {H:Hp} {s:Shared} {l:Addr} {ps:List Addr} (I:Inv X pins σ H s) (h:H l=some (.lst (ps.map V.ref))):s.heap.IsList l (ps.map Value.ref).toArray/\ps.length<=sizeLine:=by
 obtain⟨its,r,pl,z⟩:=I.list (SqL.of h)
 rw [vY r] at pl
 rw [List.length_map] at z
 exact⟨pl.isList,z⟩
theorem qW {o:Obj} {l:Addr} {i:Int} (hd:o.data=.fields #[.ref l,.int i 0]):∀v,o.data≠.cell v:=fun v z=>by rw [hd] at z;cases z
section
variable {X:Cx} {pins:List (Addr × Obj)} {σ:St} {l f I S:Addr} {ps:List Addr} {J:Hp->Prop} {R:Result->Shared->Prop}
theorem AgB (kf:Nat->Int × Int) (hh:X.A.handled=none) (hu:X.A.in1.units<cLine) (OI:Own X I) (OS:Own X S) (hSI:S≠I) (hlI:l≠I) (pI:∀p ∈ pins,p.1≠I) (pS:∀p ∈ pins,p.1≠S)
  (hJl:∀H',J H'->H' l=some (.lst (ps.map V.ref)))
  (turn:∀(i:Nat) (p:Addr),ps[i]?=some p->AbX X X.A.in1 σ f J (.ref p) (KeyP (kf i)))
  (hR:∀i p s' H',ps[i]?=some p->(∀j,j<ps.length->¬ ltP (kf j) (kf i)/\(j<i->ltP (kf i) (kf j)))->Inv X pins σ H' s'->J H'->R (.ok (.ret (.ref p))) s'):
  ∀(r j i:Nat) (s:Shared) (H:Hp) (pb kb:Addr) (c:Nat) (oI:Obj),ps.length-(j+1)=r->j+1<=ps.length->Inv X ((S,seqObj "list" #[.ref pb,.ref kb] c)::(I,oI)::pins) σ H s->J H ->
   oI.cls=.type "list_iterator"->oI.data=.fields #[.ref l,.int ((j+1:Nat):Int) 0]->H kb=some (.tup [.int (kf i).1,.int (kf i).2])->ps[i]?=some pb->i<=j->(∀j',j'<=j->¬ ltP (kf j') (kf i)/\(j'<i->ltP (kf i) (kf j'))) ->
   codeAny (model X.prog X.w) X.A (.builtin "min.loop" ⟨[.ref I,.ref f,.ref S],[]⟩) R s:=by
 have hname:(toString "min"++toString ".loop":String)="min.loop":=by decide
 have W:=Walks.list (prog:=X.prog) (w:=X.w) (A:=X.A.in1) hh I l hlI (ps.map Value.ref).toArray
 have hsz:(ps.map Value.ref).toArray.size=ps.length:=by simp
 intro r
 induction r with
 | zero=>
  intro j i s H pb kb c oI hr hj Iv hJ oc od hk hpb hij hbest
  have hin:j+1=ps.length:=by omega
  have nS:=Iv.pinAt (a:=S) (o:=seqObj "list" #[.ref pb,.ref kb] c) (by simp)
  have nI:=Iv.pinAt (a:=I) (o:=oI) (by simp)
  obtain⟨isL,_⟩:=Iv.listAt (hJl H hJ)
  refine codeAny_builtin PySem.F.entry_min_loop ?_
  rw [Around.under_plainId PySem.F.plain_min_loop _]
  show wpAny _ X.A.in1 (seqItems? (.ref S) >>= _) _ _ _
  refine wpAny_bind (wpAny_seqItems nS rfl ?_)
  show wpAny _ X.A.in1 (tryCatch (pyNext (.ref I)) _ >>= _) _ _ _
  refine wpAny_bind (wpAny_tryCatch (W.done _ _ _ ⟨by rw [hsz,<- hin];exact⟨oI,nI,oc,od⟩,isL⟩ fun h' tk' hk'=>?_))
  have I0:Inv X ((S,seqObj "list" #[.ref pb,.ref kb] c)::pins) σ H s:=Iv.pins_of fun p hp=>Iv.pinIn (a:=p.1) (o:=p.2) (by
   rcases List.mem_cons.mp hp with rfl|hp
   ·simp
   ·exact List.mem_cons_of_mem _ (List.mem_cons_of_mem _ hp))
  have I1:Inv X ((S,seqObj "list" #[.ref pb,.ref kb] c)::pins) σ H { s with heap:=h',toks:=tk' }:=I0.turned (it:=I) (t':=tk') (fun b o ne e=>hk' b o (by simpa using ne) e) (Iv.pinIn (a:=I) (o:=oI) (by simp)).2.1 OI.neL (.inr OI.up) OI.neC (fun p hp=>by
   rcases List.mem_append.mp hp with hp|hp
   ·exact OI.neP p hp
   ·rcases List.mem_cons.mp hp with rfl|hp
    ·exact hSI
    ·exact pI p hp)
  have hS':=I1.pinAt (a:=S) (o:=seqObj "list" #[.ref pb,.ref kb] c) (by simp)
  have s1:=Heap.SameBut.update h' S (Obj.mapSeq fun _=>(#[]:Array Value))
  obtain⟨c2,hc2⟩:∃c2,(h'.update S (Obj.mapSeq fun _=>(#[]:Array Value))).get? S=some (seqObj "list" #[] c2):=⟨_,get?_update_seq hS' fun _=>#[]⟩
  show wpAny _ X.A.in1 (updateSeq S (fun _=>#[]) >>= _) _ _ _
  refine wpAny_bind ?_
  refine wpAny_updateSeq hS' rfl (wpAny_bind (wpAny_letGo (wpAny_pure ?_)))
  have I2:=I1.wr (a:=S) (o:=seqObj "list" #[.ref pb,.ref kb] c) (tk:=tk') (pins':=pins) (by simp) OS s1 hc2 gX fun p hp=>.inl ⟨List.mem_cons_of_mem _ hp,pS p hp⟩
  exact hR i pb _ H hpb (fun j' hj'=>hbest j' (by omega)) I2 hJ
 | succ r ih=>
  intro j i s H pb kb c oI hr hj Iv hJ oc od hk hpb hij hbest
  have hlt:j+1<ps.length:=by omega
  have nS:=Iv.pinAt (a:=S) (o:=seqObj "list" #[.ref pb,.ref kb] c) (by simp)
  have nI:=Iv.pinAt (a:=I) (o:=oI) (by simp)
  obtain⟨isL,_⟩:=Iv.listAt (hJl H hJ)
  refine codeAny_builtin PySem.F.entry_min_loop ?_
  rw [Around.under_plainId PySem.F.plain_min_loop _]
  show wpAny _ X.A.in1 (seqItems? (.ref S) >>= _) _ _ _
  refine wpAny_bind (wpAny_seqItems nS rfl ?_)
  show wpAny _ X.A.in1 (tryCatch (pyNext (.ref I)) _ >>= _) _ _ _
  refine wpAny_bind (wpAny_tryCatch (W.item (j+1) _ _ _ (by rw [hsz];exact hlt) ⟨⟨oI,nI,oc,od⟩,isL⟩ fun v h' tk' hP hst' hk'=>?_))
  obtain⟨p,hp,rfl⟩:∃p,ps[j+1]?=some p/\v=.ref p:=by
   have hv:(ps.map Value.ref)[j+1]?=some v:=by simpa using hP
   rw [List.getElem?_map,List.getElem?_eq_getElem hlt] at hv
   exact⟨_,List.getElem?_eq_getElem hlt,(Option.some.inj hv).symm⟩
  obtain⟨oI',hoI',hoc,hod⟩:=id hst'.1
  have I1:=Iv.wrK (a:=I) (o:=oI) (o':=oI') (h':=h') (tk:=tk') (pins':=(S,seqObj "list" #[.ref pb,.ref kb] c)::(I,oI')::pins) (by simp) OI (fun b u ne e=>hk' b u (by simpa using ne) e) hoI' (qW hod) fun p hp=>by
   rcases List.mem_cons.mp hp with rfl|hp
   ·exact .inl ⟨by simp,hSI⟩
   ·rcases List.mem_cons.mp hp with rfl|hp
    ·exact .inr rfl
    ·exact .inl ⟨List.mem_cons_of_mem _ (List.mem_cons_of_mem _ hp),pI p hp⟩
  show wpAny _ X.A.in1 (tryCatch (holding [.ref p] (call (.ref f) [.ref p])) _ >>= _) _ _ _
  refine wpAny_bind (wpAny_tryCatch (wpAny_holding (wpAny_mono (turn (j+1) p hp _ H _ _ I1 hJ rfl) (fun x s'' he=>?_) fun _ _ hF=>hF.elim)))
  obtain⟨y,H2,I2,ry,⟨⟨t,rfl,ht⟩,tups⟩,hJ2⟩:=he
  cases ry
  have hk2:=tups kb _ hk
  have nS2:=I2.pinAt (a:=S) (o:=seqObj "list" #[.ref pb,.ref kb] c) (by simp)
  have nI2:=I2.pinAt (a:=I) (o:=oI') (by simp)
  show wpAny _ X.A.in1 (tryCatch (holding [.ref p,.ref t] (richCompare .Lt (.ref t) (.ref kb) >>= _)) _ >>= _) _ _ _
  obtain⟨ia,ra,pa,_⟩:=I2.tuple (SqT.of (show H2 t=some (.tup ([(kf (j+1)).1,(kf (j+1)).2].map V.int)) from ht))
  obtain⟨ib,rb,pb',_⟩:=I2.tuple (SqT.of (show H2 kb=some (.tup ([(kf i).1,(kf i).2].map V.int)) from hk2))
  have cmp:=HT.lt_tupInts (prog:=X.prog) (w:=X.w) (A:=X.A.in1) (E:=fun _ _=>False) pa pb' (qY ra) (qY rb) hu (Q:=fun u s3=>u=.bool (decide (ltP (kf (j+1)) (kf i)))/\s3=s'') ⟨by rw [AdB],rfl⟩
  refine wpAny_bind (wpAny_tryCatch (wpAny_holding (wpAny_bind (wpAny_mono cmp (fun u s3 z=>?_) fun _ _ z=>z.elim))))
  obtain⟨rfl,rfl⟩:=z
  refine wpAny_bind (wpAny_holding (wpAny_truthy_bool ?_))
  refine wpAny_bind (wpAny_letGo (wpAny_pure ?_))
  by_cases hb':ltP (kf (j+1)) (kf i)
  ·have s1:=Heap.SameBut.update s3.heap S (Obj.mapSeq fun _=>#[.ref p,.ref t])
   obtain⟨c2,hc2⟩:∃c2,(s3.heap.update S (Obj.mapSeq fun _=>#[.ref p,.ref t])).get? S=some (seqObj "list" #[.ref p,.ref t] c2):=⟨_,get?_update_seq nS2 fun _=>#[.ref p,.ref t]⟩
   simp only [hb',decide_true,if_true]
   refine wpAny_bind ?_
   refine wpAny_updateSeq nS2 rfl (wpAny_bind (wpAny_letGo ?_))
   rw [hname]
   have I3:=I2.wr (a:=S) (o:=seqObj "list" #[.ref pb,.ref kb] c) (tk:=s3.toks) (pins':=(S,seqObj "list" #[.ref p,.ref t] c2)::(I,oI')::pins) (by simp) OS s1 hc2 gX fun p hp=>by
    rcases List.mem_cons.mp hp with rfl|hp
    ·exact .inr rfl
    ·refine .inl ⟨List.mem_cons_of_mem _ hp,?_⟩
     rcases List.mem_cons.mp hp with rfl|hp
     ·exact hSI.symm
     ·exact pS p hp
   refine wpAny_pure ⟨plainId_quiet PySem.F.plain_min_loop _,ih (j+1) (j+1) _ H2 p t c2 oI' (by omega) hlt I3 hJ2 hoc hod ht hp (Nat.le_refl _) fun j' hj'=>?_⟩
   by_cases e:j'=j+1
   ·subst e
    exact⟨AbD,fun h=>absurd h (Nat.lt_irrefl _)⟩
   ·have hb1:=(hbest j' (by omega)).1
    exact⟨ltP_not hb' hb1,fun _=>AcZ hb' hb1⟩
  ·simp only [hb',decide_false,Bool.false_eq_true,if_false]
   refine wpAny_bind (wpAny_letGo ?_)
   rw [hname]
   refine wpAny_pure ⟨plainId_quiet PySem.F.plain_min_loop _,ih (j+1) i _ H2 pb kb c oI' (by omega) hlt I2 hJ2 hoc hod hk2 hpb (by omega) fun j' hj'=>?_⟩
   by_cases e:j'=j+1
   ·subst e
    exact⟨hb',fun h=>by omega⟩
   ·exact hbest j' (by omega)
def rMinK (X:Cx) (σ:St):List V->List V->Hp->VK->Prop:=fun xs ds H Q=>∃(l f:Addr) (ps:List Addr) (kf:Nat->Int × Int) (J:Hp->Prop),xs=[.ref l]/\ds=[.ref f]/\J H/\(∀H',J H'->H' l=some (.lst (ps.map V.ref)))/\ps≠[] /\
 (∀(i:Nat) (p:Addr),ps[i]?=some p->AbX X X.A.in1 σ f J (.ref p) (KeyP (kf i)))/\∀(i:Nat) (p:Addr) (H':Hp),J H'->ps[i]?=some p->(∀j,j<ps.length->¬ ltP (kf j) (kf i)/\(j<i->ltP (kf i) (kf j)))->Q (.ref p) H'
theorem AdP (hc:X.calm=true) (hu:X.A.in1.units<cLine) {s:Shared} {H:Hp} {xs ds:List V} {us ws:List Value} {Q:VK} (Iv:Inv X pins σ H s) (r:cE xs us) (rd:cE ds ws) (h:rMinK X σ xs ds H Q):
  wpAny (model X.prog X.w) X.A (call (.builtin "min") us ([("key":Str)].zip ws)) (EP X pins σ Q) X.xe s:=by
 obtain⟨l,f,ps,kf,J,rfl,rfl,hJ,hJl,hne,turn,q⟩:=h
 obtain⟨u,rfl,ru⟩:=r.one
 cases ru
 obtain⟨u',rfl,ru'⟩:=rd.one
 cases ru'
 have hh:X.A.handled=none:=Iv.ok.hd hc
 have hne:0<ps.length:=List.length_pos_iff.mpr hne
 have hname:(toString "min"++toString ".loop":String)="min.loop":=by decide
 obtain⟨isL,_⟩:=Iv.listAt (hJl H hJ)
 show wpAny _ _ (call (.builtin "min") [.ref l] [(Str.ofString "key",.ref f)]) _ _ _
 refine kmk_tree PySem.F.kind_min PySem.F.plain_min PySem.F.entry_min (kmk_min_key _ _) ?_
 show wpAny _ X.A.in1 (Builtin.Builtins.bindParams "min" ["key","default"] 0 ⟨[],[(Str.ofString "key",.ref f)]⟩ >>= _) _ _ s
 refine wpAny_bind (wpAny_of_eq (show Builtin.Builtins.bindParams "min" ["key","default"] 0 ⟨[],[(Str.ofString "key",.ref f)]⟩=pure [some (.ref f),none] from rfl) ?_)
 refine wpAny_bind (wpAny_pure ?_)
 refine wpAny_bind (wpAny_pyIter_list isL ?_)
 refine wpAny_bind (wpAny_newList ?_ (Nat.zero_le _))
 rw [hname]
 have lI:l<s.heap.objs.size:=Iv.hok.lt (hJl H hJ)
 have hlI:l≠s.heap.objs.size:=Nat.ne_of_lt lI
 have OI:Own X s.heap.objs.size:=Own.of Iv (Nat.le_refl _)
 have nI:H s.heap.objs.size=none:=Iv.hok.fresh (Nat.le_refl _)
 have I1:Inv X pins σ H { s with heap:=s.heap.push { cls:=.type "list_iterator",data:=.fields #[.ref l,.int 0 0] } }:=Iv.kept (t':=s.toks) fun b o e=>Heap.get?_push_of_some _ e
 have I2:Inv X pins σ H { s with heap:=(s.heap.push { cls:=.type "list_iterator",data:=.fields #[.ref l,.int 0 0] }).push (seqObj "list" #[] 0) }:=I1.kept (t':=s.toks) fun b o e=>Heap.get?_push_of_some _ e
 have OS:Own X (s.heap.push { cls:=.type "list_iterator",data:=.fields #[.ref l,.int 0 0] }).objs.size:=Own.of I1 (Nat.le_refl _)
 have nS:H (s.heap.push { cls:=.type "list_iterator",data:=.fields #[.ref l,.int 0 0] }).objs.size=none:=I1.hok.fresh (Nat.le_refl _)
 have hS:(s.heap.push { cls:=.type "list_iterator",data:=.fields #[.ref l,.int 0 0] }).objs.size=s.heap.objs.size+1:=size_push' ..
 have hSI:(s.heap.push { cls:=.type "list_iterator",data:=.fields #[.ref l,.int 0 0] }).objs.size≠s.heap.objs.size:=by rw [hS];exact Nat.ne_of_gt (Nat.lt_succ_self _)
 have gI:((s.heap.push { cls:=.type "list_iterator",data:=.fields #[.ref l,.int 0 0] }).push (seqObj "list" #[] 0)).get? s.heap.objs.size=some { cls:=.type "list_iterator",data:=.fields #[.ref l,.int 0 0] }:=
  Heap.get?_push_of_some _ (Heap.get?_push_size _ rfl)
 have gS:((s.heap.push { cls:=.type "list_iterator",data:=.fields #[.ref l,.int 0 0] }).push (seqObj "list" #[] 0)).get? (s.heap.push { cls:=.type "list_iterator",data:=.fields #[.ref l,.int 0 0] }).objs.size=some (seqObj "list" #[] 0):=Heap.get?_push_size _ rfl
 have pI:∀p ∈ pins,p.1≠s.heap.objs.size:=fun p hp=>Nat.ne_of_lt (Heap.lt_size (Iv.pinAt (a:=p.1) (o:=p.2) hp))
 have pS:∀p ∈ pins,p.1≠(s.heap.push { cls:=.type "list_iterator",data:=.fields #[.ref l,.int 0 0] }).objs.size:=fun p hp=>Nat.ne_of_lt (Heap.lt_size (I1.pinAt (a:=p.1) (o:=p.2) hp))
 generalize hSd:(s.heap.push { cls:=.type "list_iterator",data:=.fields #[.ref l,.int 0 0] }).objs.size=S at OS nS hSI gS pS ⊢
 generalize hId:s.heap.objs.size=I at OI nI hlI hSI gI pI ⊢
 generalize (s.heap.push { cls:=.type "list_iterator",data:=.fields #[.ref l,.int 0 0] }).push (seqObj "list" #[] 0)=h0 at I2 gI gS ⊢
 have I3:Inv X ((S,seqObj "list" #[] 0)::(I,{ cls:=.type "list_iterator",data:=.fields #[.ref l,.int 0 0] })::pins) σ H { s with heap:=h0 }:=I2.pins_of fun p hp=>by
  rcases List.mem_cons.mp hp with rfl|hp
  ·exact⟨gS,nS,OS.neL,OS.nfs,gX⟩
  ·rcases List.mem_cons.mp hp with rfl|hp
   ·exact⟨gI,nI,OI.neL,OI.nfs,fun v z=>by cases z⟩
   ·exact I2.pinIn (a:=p.1) (o:=p.2) hp
 obtain⟨isL3,_⟩:=I3.listAt (hJl H hJ)
 have W:=Walks.list (prog:=X.prog) (w:=X.w) (A:=X.A.in1) hh I l hlI (ps.map Value.ref).toArray
 have hsz:(ps.map Value.ref).toArray.size=ps.length:=by simp
 refine wpAny_pure ⟨plainId_quiet PySem.F.plain_min_loop _,?_⟩
 refine codeAny_builtin PySem.F.entry_min_loop ?_
 rw [Around.under_plainId PySem.F.plain_min_loop _]
 show wpAny _ X.A.in1 (seqItems? (.ref S) >>= _) _ _ _
 refine wpAny_bind (wpAny_seqItems gS rfl ?_)
 show wpAny _ X.A.in1 (tryCatch (pyNext (.ref I)) _ >>= _) _ _ _
 refine wpAny_bind (wpAny_tryCatch (W.item 0 _ _ _ (by rw [hsz];exact hne) ⟨⟨_,gI,rfl,rfl⟩,isL3⟩ fun v h' tk' hP hst' hk'=>?_))
 obtain⟨p,hp,rfl⟩:∃p,ps[0]?=some p/\v=.ref p:=by
  have hv:(ps.map Value.ref)[0]?=some v:=by simpa using hP
  rw [List.getElem?_map,List.getElem?_eq_getElem hne] at hv
  exact⟨_,List.getElem?_eq_getElem hne,(Option.some.inj hv).symm⟩
 obtain⟨oI',hoI',hoc,hod⟩:=id hst'.1
 have I4:=I3.wrK (a:=I) (o:={ cls:=.type "list_iterator",data:=.fields #[.ref l,.int 0 0] }) (o':=oI') (h':=h') (tk:=tk') (pins':=(S,seqObj "list" #[] 0)::(I,oI')::pins) (by simp) OI (fun b u ne e=>hk' b u (by simpa using ne) e) hoI' (qW hod) fun p hp=>by
  rcases List.mem_cons.mp hp with rfl|hp
  ·exact .inl ⟨by simp,hSI⟩
  ·rcases List.mem_cons.mp hp with rfl|hp
   ·exact .inr rfl
   ·exact .inl ⟨List.mem_cons_of_mem _ (List.mem_cons_of_mem _ hp),pI p hp⟩
 show wpAny _ X.A.in1 (tryCatch (holding [.ref p] (call (.ref f) [.ref p])) _ >>= _) _ _ _
 refine wpAny_bind (wpAny_tryCatch (wpAny_holding (wpAny_mono (turn 0 p hp _ H _ _ I4 hJ rfl) (fun x s'' he=>?_) fun _ _ hF=>hF.elim)))
 obtain⟨y,H2,I5,ry,⟨⟨t,rfl,ht⟩,tups⟩,hJ2⟩:=he
 cases ry
 have nS2:=I5.pinAt (a:=S) (o:=seqObj "list" #[] 0) (by simp)
 have s1:=Heap.SameBut.update s''.heap S (Obj.mapSeq fun _=>#[.ref p,.ref t])
 obtain⟨c2,hc2⟩:∃c2,(s''.heap.update S (Obj.mapSeq fun _=>#[.ref p,.ref t])).get? S=some (seqObj "list" #[.ref p,.ref t] c2):=⟨_,get?_update_seq nS2 fun _=>#[.ref p,.ref t]⟩
 show wpAny _ X.A.in1 (updateSeq S (fun _=>#[.ref p,.ref t]) >>= _) _ _ _
 refine wpAny_bind ?_
 refine wpAny_updateSeq nS2 rfl ?_
 rw [hname]
 have I6:=I5.wr (a:=S) (o:=seqObj "list" #[] 0) (tk:=s''.toks) (pins':=(S,seqObj "list" #[.ref p,.ref t] c2)::(I,oI')::pins) (by simp) OS s1 hc2 gX fun p hp=>by
  rcases List.mem_cons.mp hp with rfl|hp
  ·exact .inr rfl
  ·refine .inl ⟨List.mem_cons_of_mem _ hp,?_⟩
   rcases List.mem_cons.mp hp with rfl|hp
   ·exact hSI.symm
   ·exact pS p hp
 refine wpAny_pure ⟨plainId_quiet PySem.F.plain_min_loop _,AgB kf hh hu OI OS hSI hlI pI pS hJl turn (fun i p' s' H' hp' best I' j'=>⟨.ref p',H',I',rfl,q i p' H' j' hp' best⟩) _ 0 0 _ H2 p t c2 oI' rfl hne I6 hJ2 hoc hod ht hp (Nat.le_refl _) fun j' hj'=>?_⟩
 have e:j'=0:=by omega
 subst e
 exact⟨AbD,fun h=>absurd h (Nat.lt_irrefl _)⟩
def tMinK (X:Cx) (ta td:TA):TE:=fun σ H Q=>ta σ H fun xs H1=>td σ H1 fun ds H2=>rMinK X σ xs ds H2 Q
theorem pe_minK {x:Str} {p pos kpos:Pos} {a b:Expr} {ta td:TA} (hc:X.calm=true) (hu:X.A.in1.units<cLine) (hg:Gl X x) (hm:X.mg x=none) (hv:bootBuiltins x=some (.builtin "min")) (ha:PA X [a] ta) (hd:PK X [⟨some "key",b,kpos⟩] td) (hn:x≠"__name__":=by decide) (hdb:(x == ("__debug__":Str))=false:=by decide)
  (hall:(backToKw pos (keywordEach [⟨some "key",b,kpos⟩] X.env)).all (·.1.isSome)=true:=by rfl) (hks:(backToKw pos (keywordEach [⟨some "key",b,kpos⟩] X.env)).filterMap (·.1)=[("key":Str)]:=by rfl)
  (he:starEach [a] X.env=(false,eval a X.env)::starEach [] X.env:=by rfl) (hpl:((backTo pos (starEach [a] X.env)).any (·.1) || (backToKw pos (keywordEach [⟨some "key",b,kpos⟩] X.env)).any (·.1.isNone))=false:=by rfl):
  PE X (.Call (.Name x p) [a] [⟨some "key",b,kpos⟩] pos) (tMinK X ta td):=by
 intro pins s σ H Q I h
 refine wpAny_Call_Name_kw (iN I hg hm hv ?_ hn hdb)
 refine PySem.W.callWith_of (P:=fun g=>X.K.In g) hpl (fun _ _=>⟨.machine,.inr (.inl rfl),.now⟩) (PyProof.Rows.evalArgs_kw2 hall (thn (ha pins s σ H _ I h) fun us s1 ⟨vs,H1,I1,r,q⟩=>?_) he)
 refine thn (hd pos pins s1 σ H1 _ I1 q) fun ws s2 ⟨zs,H2,I2,rz,q2⟩=>⟨I2.kIn,?_⟩
 rw [hks]
 exact AdP hc hu I2 r rz q2
end
end L2
namespace Ls
open PySem L2 PySem.W
abbrev pf (n l h m:Int) (lv:V):List (Str × V):=[("number",.int n),("low",.int l),("high",.int h),("mark",.int m),("lending",lv)]
def rN (C:Addr) (H:Hp) (p:Addr) (n l h m:Int) (lv:V):Prop:=∃dx,H p=some (.ins C dx (pf n l h m lv))
def jW (H:Hp):V->Option (Int × Str × Int)->Prop
 | .non,none=>True
 | .ref q,some (t,x,u)=>H q=some (.tup [.int t,.str x,.int u])
 | _,_=>False
theorem jW.non {H:Hp} {lv:V} {o:Option (Int × Str × Int)} (h:jW H lv o):decide (lv=.non)=o.isNone:=by
 cases lv <;> cases o <;> first|rfl|exact h.elim
theorem pf_mark {n l h m m':Int} {lv:V}:dD "mark" (.int m') (pf n l h m lv)=pf n l h m' lv:=by
 simp only [dD]
 rw [if_neg (by decide +kernel),if_neg (by decide +kernel),if_neg (by decide +kernel),if_pos trivial]
theorem uQ {n l h m:Int} {lv lv':V}:dD "lending" lv' (pf n l h m lv)=pf n l h m lv':=by
 simp only [dD]
 rw [if_neg (by decide +kernel),if_neg (by decide +kernel),if_neg (by decide +kernel),if_neg (by decide +kernel),if_pos trivial]
theorem pf_high {n l h h' m:Int} {lv:V}:dD "high" (.int h') (pf n l h m lv)=pf n l h' m lv:=by
 simp only [dD]
 rw [if_neg (by decide +kernel),if_neg (by decide +kernel),if_pos trivial]
theorem pf_all {n l h m:Int} {lv:V}:dD "lending" lv (dD "mark" (.int m) (dD "high" (.int h) (dD "low" (.int l) (dD "number" (.int n) []))))=pf n l h m lv:=rfl
structure Pl (K:PySem.W.Frag) (mg:Str->Option Value) (C:Addr):Prop where
 cl:Cls K C
 nN:NoAttr K C "number"
 nL:NoAttr K C "low"
 nH:NoAttr K C "high"
 nM:NoAttr K C "mark"
 nD:NoAttr K C "lending"
 mgC:mg "Piece"=some (.ref C)
def tP (C:Addr):Sp:=fun vs H Q _=>∃(p dx:Addr) (n l h:Int),vs=[.ref p,.int n,.int l,.int h]/\H p=some (.ins C dx [])/\Q .non (upd H p (.ins C dx (pf n l h l .non)))
def pN (C:Addr):Sp:=fun vs H Q _=>∃(p:Addr) (n l h m:Int) (lv:V),vs=[.ref p]/\rN C H p n l h m lv/\Q (.int (h-m)) H
def tZ (C:Addr):Sp:=fun vs H Q _=>∃(p:Addr) (n l h m:Int) (lv:V),vs=[.ref p]/\rN C H p n l h m lv/\Q (.bl (decide (m=h))) H
def kJ (C:Addr):Sp:=fun vs H Q _=>∃(p:Addr) (n l h m:Int) (lv:V),vs=[.ref p]/\rN C H p n l h m lv/\Q (.bl (!decide (lv=.non))) H
def yB (C:Addr):Sp:=fun vs H Q _=>∃(p:Addr) (n l h m:Int) (lv:V),vs=[.ref p]/\rN C H p n l h m lv/\Q (.bl (decide (lv=.non) && !decide (m=h))) H
def xX (C:Addr):Sp:=fun vs H Q _=>∃(p:Addr) (n l h m i:Int) (lv:V) (o:Option (Int × Str × Int)),vs=[.ref p,.int i]/\rN C H p n l h m lv/\jW H lv o/\Q (.bl (o.any fun t=>decide (t.2.2<i))) H
def yA (C:Addr):Sp:=fun vs H Q _=>∃(p:Addr) (n l h m i:Int) (lv:V) (o:Option (Int × Str × Int)),vs=[.ref p,.int i]/\rN C H p n l h m lv/\jW H lv o/\Q (.bl (o.any fun t=>decide (t.1=i))) H
def tN (C:Addr):Sp:=fun vs H Q _=>∃(p:Addr) (n l h m:Int) (lv:V),vs=[.ref p]/\rN C H p n l h m lv/\∀r,H r=none->Q (.ref r) (upd H r (.tup [.int n,.int l,.int h,.int m,lv]))
section
variable {P:Program} {w:World} {K:PySem.W.Frag} {mg:Str->Option Value} {base:Heap}
theorem scPInit:aP ["self","number","low","high"] ["self","number","low","high"] (aH yP):=⟨rfl,rfl,rfl,by decide +kernel,rfl,by decide +kernel,by decide +kernel⟩
theorem AfK {f C:Addr} {fd:FuncData} (F:Fun K "__init__" "Piece.__init__" yP f fd) (T:Pl K mg C):aJ P w K mg base CX0 1 f fd ["self","number","low","high"] (tP C):=by
 refine F.ok scPInit (fun vs H Q E h=>?_) (fun cdv A outer s H vs Q E hr h=>?_)
 ·obtain⟨p,dx,n,l,h',rfl,_⟩:=h
  rfl
 ·obtain⟨p,dx,n,l,h',rfl,hp,t⟩:=h
  refine⟨_,aC (dJ (pv 0) (pv 1) rfl) (aC (dJ (pv 0) (pv 2) rfl) (aC (dJ (pv 0) (pv 3) rfl) (aC (dJ (pv 0) (pv 2) rfl) (aI (dJ (pv 0) dX rfl))))),?_⟩
  refine⟨_,rfl,_,rfl,p,C,dx,_,rfl,hp,T.cl,T.nN,(by show 0<1000;decide),?_⟩
  refine⟨_,rfl,_,rfl,p,C,dx,_,rfl,aD,T.cl,T.nL,(by show 1<1000;decide),?_⟩
  refine⟨_,rfl,_,rfl,p,C,dx,_,rfl,aD,T.cl,T.nH,(by show 2<1000;decide),?_⟩
  refine⟨_,rfl,_,rfl,p,C,dx,_,rfl,aD,T.cl,T.nM,(by show 3<1000;decide),?_⟩
  refine⟨_,rfl,p,C,dx,_,rfl,aD,T.cl,T.nD,(by show 4<1000;decide),?_⟩
  rw [eI,eI,eI,eI,pf_all]
  exact t
theorem scRest:aP ["self"] ["self"] (aH yM):=⟨rfl,rfl,rfl,by decide +kernel,rfl,by decide +kernel,by decide +kernel⟩
theorem ok_rest {f C:Addr} {fd:FuncData} (F:Fun K "rest" "Piece.rest" yM f fd) (T:Pl K mg C):aJ P w K mg base CX0 1 f fd ["self"] (pN C):=by
 refine F.ok scRest (fun vs H Q E h=>?_) (fun cdv A outer s H vs Q E hr h=>?_)
 ·obtain⟨p,n,l,h',m,lv,rfl,_⟩:=h
  rfl
 ·obtain⟨p,n,l,h',m,lv,rfl,⟨dx,hp⟩,t⟩:=h
  refine⟨_,aI (aY (bU kX (aV (pv 0) rfl) (aV (pv 0) rfl))),?_⟩
  exact⟨_,rfl,p,C,dx,_,_,rfl,hp,T.cl,T.nH,rfl,_,rfl,p,C,dx,_,_,rfl,hp,T.cl,T.nM,rfl,_,_,rfl,rfl,t⟩
theorem scDone:aP ["self"] ["self"] (aH yR):=⟨rfl,rfl,rfl,by decide +kernel,rfl,by decide +kernel,by decide +kernel⟩
theorem ok_done {f C:Addr} {fd:FuncData} (F:Fun K "is_done" "Piece.is_done" yR f fd) (T:Pl K mg C):aJ P w K mg base CX0 1 f fd ["self"] (tZ C):=by
 refine F.ok scDone (fun vs H Q E h=>?_) (fun cdv A outer s H vs Q E hr h=>?_)
 ·obtain⟨p,n,l,h',m,lv,rfl,_⟩:=h
  rfl
 ·obtain⟨p,n,l,h',m,lv,rfl,⟨dx,hp⟩,t⟩:=h
  refine⟨_,aI (aY (eJ gO (aV (pv 0) rfl) (aV (pv 0) rfl) (bX _))),?_⟩
  refine⟨_,rfl,p,C,dx,_,_,rfl,hp,T.cl,T.nM,rfl,_,rfl,p,C,dx,_,_,rfl,hp,T.cl,T.nH,rfl,rfl,?_⟩
  have e:decide (V.int m=V.int h')=decide (m=h'):=by rw [pF,Bool.eq_iff_iff];simp
  rw [e]
  exact t
theorem scLent:aP ["self"] ["self"] (aH yN):=⟨rfl,rfl,rfl,by decide +kernel,rfl,by decide +kernel,by decide +kernel⟩
theorem ok_lent {f C:Addr} {fd:FuncData} (F:Fun K "is_lent" "Piece.is_lent" yN f fd) (T:Pl K mg C):aJ P w K mg base CX0 1 f fd ["self"] (kJ C):=by
 refine F.ok scLent (fun vs H Q E h=>?_) (fun cdv A outer s H vs Q E hr h=>?_)
 ·obtain⟨p,n,l,h',m,lv,rfl,_⟩:=h
  rfl
 ·obtain⟨p,n,l,h',m,lv,rfl,⟨dx,hp⟩,t⟩:=h
  refine⟨_,aI (aY (eJ uU (aV (pv 0) rfl) dX (bX _))),?_⟩
  exact⟨_,rfl,p,C,dx,_,_,rfl,hp,T.cl,T.nD,rfl,rfl,t⟩
theorem scFree:aP ["self"] ["self"] (aH yQ):=⟨rfl,rfl,rfl,by decide +kernel,rfl,by decide +kernel,by decide +kernel⟩
theorem ok_free {f fL fD C:Addr} {fd fdL fdD:FuncData} (F:Fun K "is_free" "Piece.is_free" yQ f fd) (T:Pl K mg C) (GL:aJ P w K mg base CX0 1 fL fdL ["self"] (kJ C)) (bL:aO K fdL ["self"] []) (mL:dE K C "is_lent" fL)
  (GD:aJ P w K mg base CX0 1 fD fdD ["self"] (tZ C)) (bD:aO K fdD ["self"] []) (mD:dE K C "is_done" fD):aJ P w K mg base CX0 2 f fd ["self"] (yB C):=by
 refine F.ok scFree (fun vs H Q E h=>?_) (fun cdv A outer s H vs Q E hr h=>?_)
 ·obtain⟨p,n,l,h',m,lv,rfl,_⟩:=h
  rfl
 ·obtain⟨p,n,l,h',m,lv,rfl,⟨dx,hp⟩,t⟩:=h
  refine⟨_,aI (aY (iK (uR (cM (pv 0) T.cl mL GL hr bL .nil aN)) (iJ (uR (cM (pv 0) T.cl mD GD hr bD .nil aN))))),?_⟩
  refine⟨_,rfl,p,dx,_,rfl,hp,rfl,p,n,l,h',m,lv,rfl,⟨dx,hp⟩,_,rfl,_,rfl,?_⟩
  refine eF (fun hc=>?_) (fun hc=>?_)
  ·have e:decide (lv=.non)=true:=by simpa using hc
   rw [e] at t
   exact⟨_,rfl,p,dx,_,rfl,hp,rfl,p,n,l,h',m,lv,rfl,⟨dx,hp⟩,_,rfl,t⟩
  ·have e:decide (lv=.non)=false:=by simpa using hc
   rw [e] at t
   exact t
theorem scLate:aP ["self","moment"] ["self","moment"] (aH yO):=⟨rfl,rfl,rfl,by decide +kernel,rfl,by decide +kernel,by decide +kernel⟩
theorem ok_late {f fL C:Addr} {fd fdL:FuncData} (F:Fun K "is_late" "Piece.is_late" yO f fd) (T:Pl K mg C) (GL:aJ P w K mg base CX0 1 fL fdL ["self"] (kJ C)) (bL:aO K fdL ["self"] []) (mL:dE K C "is_lent" fL):aJ P w K mg base CX0 2 f fd ["self","moment"] (xX C):=by
 refine F.ok scLate (fun vs H Q E h=>?_) (fun cdv A outer s H vs Q E hr h=>?_)
 ·obtain⟨p,n,l,h',m,i,lv,o,rfl,_⟩:=h
  rfl
 ·obtain⟨p,n,l,h',m,i,lv,o,rfl,⟨dx,hp⟩,hl,t⟩:=h
  refine⟨_,aI (aY (iK (cM (pv 0) T.cl mL GL hr bL .nil aN) (iJ (eJ AaZ (pv 1) (bJ bQ (aV (pv 0) rfl) aE (fun _ _=>rfl)) (bX _))))),?_⟩
  refine⟨_,rfl,p,dx,_,rfl,hp,rfl,p,n,l,h',m,lv,rfl,⟨dx,hp⟩,_,rfl,?_⟩
  rw [hl.non]
  cases o with
  | none=>exact dH t
  | some z=>
   obtain⟨a,x,u⟩:=z
   refine eP ?_
   cases lv with
   | ref q=>exact⟨_,rfl,_,rfl,p,C,dx,_,_,rfl,hp,T.cl,T.nD,rfl,q,_,_,_,rfl,rfl,SqT.of hl,aM (j:=2) rfl,_,_,rfl,rfl,t⟩
   | _=>exact hl.elim
theorem scHasT:aP ["self","token"] ["self","token"] (aH sPHas):=⟨rfl,rfl,rfl,by decide +kernel,rfl,by decide +kernel,by decide +kernel⟩
theorem ok_hasT {f fL C:Addr} {fd fdL:FuncData} (F:Fun K "has_token" "Piece.has_token" sPHas f fd) (T:Pl K mg C) (GL:aJ P w K mg base CX0 1 fL fdL ["self"] (kJ C)) (bL:aO K fdL ["self"] []) (mL:dE K C "is_lent" fL):aJ P w K mg base CX0 2 f fd ["self","token"] (yA C):=by
 refine F.ok scHasT (fun vs H Q E h=>?_) (fun cdv A outer s H vs Q E hr h=>?_)
 ·obtain⟨p,n,l,h',m,i,lv,o,rfl,_⟩:=h
  rfl
 ·obtain⟨p,n,l,h',m,i,lv,o,rfl,⟨dx,hp⟩,hl,t⟩:=h
  refine⟨_,aI (aY (iK (cM (pv 0) T.cl mL GL hr bL .nil aN) (iJ (eJ gO (bJ bQ (aV (pv 0) rfl) aE (fun _ _=>rfl)) (pv 1) (bX _))))),?_⟩
  refine⟨_,rfl,p,dx,_,rfl,hp,rfl,p,n,l,h',m,lv,rfl,⟨dx,hp⟩,_,rfl,?_⟩
  rw [hl.non]
  cases o with
  | none=>exact dH t
  | some z=>
   obtain⟨a,x,u⟩:=z
   refine eP ?_
   cases lv with
   | ref q=>
    refine⟨_,rfl,p,C,dx,_,_,rfl,hp,T.cl,T.nD,rfl,q,_,_,_,rfl,rfl,SqT.of hl,aM (j:=0) rfl,_,rfl,rfl,?_⟩
    have e:decide (V.int a=V.int i)=decide (a=i):=by rw [pF,Bool.eq_iff_iff];simp
    rw [e]
    exact t
   | _=>exact hl.elim
theorem scShown:aP ["self"] ["self"] (aH uG):=⟨rfl,rfl,rfl,by decide +kernel,rfl,by decide +kernel,by decide +kernel⟩
theorem AfI {f C:Addr} {fd:FuncData} (F:Fun K "shown" "Piece.shown" uG f fd) (T:Pl K mg C):aJ P w K mg base CX0 1 f fd ["self"] (tN C):=by
 refine F.ok scShown (fun vs H Q E h=>?_) (fun cdv A outer s H vs Q E hr h=>?_)
 ·obtain⟨p,n,l,h',m,lv,rfl,_⟩:=h
  rfl
 ·obtain⟨p,n,l,h',m,lv,rfl,⟨dx,hp⟩,t⟩:=h
  refine⟨_,aI (aY (cC (aA (aV (pv 0) rfl) (aA (aV (pv 0) rfl) (aA (aV (pv 0) rfl) (aA (aV (pv 0) rfl) (aA (aV (pv 0) rfl) aB))))))),?_⟩
  exact⟨_,rfl,p,C,dx,_,_,rfl,hp,T.cl,T.nN,rfl,_,rfl,p,C,dx,_,_,rfl,hp,T.cl,T.nL,rfl,_,rfl,p,C,dx,_,_,rfl,hp,T.cl,T.nH,rfl,_,rfl,p,C,dx,_,_,rfl,hp,T.cl,T.nM,rfl,_,rfl,p,C,dx,_,_,rfl,hp,T.cl,T.nD,rfl,by show 5<=sizeLine;decide,t⟩
end
end Ls
namespace L2
open PySem PySem.Spec PyProof.Rows PySem.W
structure vH (K:PySem.W.Frag) (x qual:Str) (st:Stmt) (f:Addr) (fd:FuncData) (c:Addr):Prop where
 ex:∃(oc:Value) (od:Option Addr) (kV doc pm:Value) (an:Option Addr) (ct:Value) (osl:Array (Option Value)),fd=PySem.W.fnOf x qual (dN st) (cS st) (aH st) .none kV doc pm an (.ref c) ct/\K.lookup f=some ⟨oc,od,.func fd,osl⟩/\PySem.W.codeIn K (.ref c) qual=true
 kp:PySem.W.keepIn K (.ref f)=true
section
variable {P:Program} {w:World} {K:PySem.W.Frag} {mg:Str->Option Value} {base:Heap} {x qual:Str} {st:Stmt} {f c:Addr} {fd:FuncData}
theorem vH.toFun (F:vH K x qual st f fd c):Fun K x qual st f fd:=by
 obtain⟨⟨oc,od,kV,doc,pm,an,ct,osl,e,l,h⟩,k⟩:=F
 exact⟨⟨oc,od,kV,doc,pm,an,_,ct,osl,e,l,h⟩,k⟩
theorem vH.ok {N ps:List Str} {k:Nat} {sp:Sp} (F:vH K x qual st f fd c) (S:aP N ps (aH st)) (len:∀vs H Q E,sp vs H Q E->vs.length=ps.length)
  (hbody:∀(A:Around) (outer:List Env) (s:Shared) (H:Hp) (vs:List V) (Q:VK) (E:XK),Room k (A.deeper (envOfC qual (aH st) s.heap.objs.size f (.ref c)))->sp vs H Q E ->
   ∃t,PSs (jV CX0 P w K mg base N qual (aH st) f (.ref c) A outer s H E).nox (cS st) t/\t { nx:=fun _ H'=>Q .non H',rt:=Q } (dI N vs) H):aJ P w K mg base CX0 (k+1) f fd ps sp:=by
 obtain⟨oc,od,kV,doc,pm,an,ct,osl,rfl,lk,hcd⟩:=F.ex
 refine fn_of lk hcd S len fun A outer s H vs Q E hr hsp=>?_
 obtain⟨t,h,q⟩:=hbody A outer s H vs Q E hr hsp
 exact⟨t,h.nox,q⟩
theorem AbI {oc:Value} {od an:Option Addr} {osl:Array (Option Value)} {kV doc pm ct:Value} (l:K.lookup f=some ⟨oc,od,.func (PySem.W.fnOf x qual (dN st) (cS st) (aH st) .none kV doc pm an (.ref c) ct),osl⟩)
  (h:PySem.W.codeIn K (.ref c) qual=true) (k:PySem.W.keepIn K (.ref f)=true):vH K x qual st f (PySem.W.fnOf x qual (dN st) (cS st) (aH st) .none kV doc pm an (.ref c) ct) c:=⟨⟨oc,od,kV,doc,pm,an,ct,osl,rfl,l,h⟩,k⟩
end
def dO (H H':Hp):Prop:=∀b o,H b=some o->(∃ps,o=.tbl ps)\/H' b=some o
theorem aR.toT {H H':Hp} (h:aR H H'):dO H H':=fun b o e=>.inr (h b o e)
theorem dO.trans {H H1 H2:Hp} (a:dO H H1) (b:dO H1 H2):dO H H2:=fun c o e=>by
 rcases a c o e with z|z
 ·exact .inl z
 ·exact b c o z
theorem cQ.toT {T:Addr} {H H':Hp} {ps:Array Value} (hT:H T=some (.tbl ps)) (h:cQ T H H'):dO H H':=fun b o e=>by
 by_cases z:b=T
 ·subst z
  rw [hT] at e
  cases e
  exact .inl ⟨ps,rfl⟩
 ·exact .inr (h b o z e)
theorem cQ.same {T:Addr} {H H1 H2:Hp} (k:cQ T H H1) (s:aR H1 H2):cQ T H H2:=fun b o n e=>s _ _ (k b o n e)
theorem cQ.pre {T:Addr} {H H1 H2:Hp} (s:aR H H1) (k:cQ T H1 H2):cQ T H H2:=fun b o n e=>k b o n (s _ _ e)
theorem dO.at {H H':Hp} {b:Addr} {o:HO} (h:dO H H') (e:H b=some o) (n:∀ps,o≠.tbl ps:=by intro _ z;cases z):H' b=some o:=by
 rcases h b o e with ⟨ps,z⟩|z
 ·exact absurd z (n ps)
 ·exact z
theorem Tab.same {H H':Hp} {T:Addr} {pos:Pos} {q:Str} (h:aR H H') (t:Tab H T pos q):Tab H' T pos q:=by
 obtain⟨ps,e,ht,hc⟩:=t
 refine⟨ps,h _ _ e,ht,?_⟩
 rcases hc with z|⟨c',z,hC⟩
 ·exact .inl z
 ·exact .inr ⟨c',z,h _ _ hC⟩
end L2
namespace Ls
open PySem L2 PySem.W
theorem _root_.L2.Room.u1 {k:Nat} {A:Around} (hr:Room k A):A.in1.units<cLine:=by have:=hr.un;show A.units+1<_;omega
theorem AhM:bootBuiltins "min"=some (.builtin "min"):=by decide +kernel
structure Pc where
 n:Int
 l:Int
 h:Int
 m:Int
 o:Option (Int × Str × Int)
def fV (C:Addr) (H:Hp) (p:Addr) (c:Pc):Prop:=∃lv,rN C H p c.n c.l c.h c.m lv/\jW H lv c.o
theorem rN.sameT {C:Addr} {H H':Hp} {p:Addr} {n l h m:Int} {lv:V} (e:dO H H') (x:rN C H p n l h m lv):rN C H' p n l h m lv:=by
 obtain⟨dx,q⟩:=x
 exact⟨dx,e.at q⟩
theorem jW.sameT {H H':Hp} {lv:V} {o:Option (Int × Str × Int)} (e:dO H H') (x:jW H lv o):jW H' lv o:=by
 cases lv <;> cases o <;> first|exact x|exact e.at x
theorem fV.sameT {C:Addr} {H H':Hp} {p:Addr} {c:Pc} (e:dO H H') (x:fV C H p c):fV C H' p c:=by
 obtain⟨lv,a,b⟩:=x
 exact⟨lv,a.sameT e,b.sameT e⟩
def Pc.k (c:Pc):Int × Int:=(-(c.h-c.m),c.l)
def oK:Pos:=match cS jM with
 | [.Return (some (.Call _ _ [⟨_,e,_⟩] _)) _]=>e.pos
 | _=>⟨0,0,0,0⟩
abbrev iB:Str:="greatest.<locals>.<lambda>"
def tY (C T:Addr):Sp:=fun vs H Q _=>∃(l:Addr) (ps:List Addr) (cs:List Pc),vs=[.ref l]/\H l=some (.lst (ps.map V.ref))/\Paired (fV C H) ps cs/\ps≠[]/\Tab H T oK iB /\
 ∀(i:Nat) (p:Addr) (c:Pc) (H':Hp),cQ T H H'->Tab H' T oK iB->ps[i]?=some p->cs[i]?=some c->(∀j c',cs[j]?=some c'->¬ ltP c'.k c.k/\(j<i->ltP c.k c'.k))->Q (.ref p) H'
section
variable {P:Program} {w:World} {K:PySem.W.Frag} {mg:Str->Option Value} {base:Heap}
theorem yH:aP ["pieces"] ["pieces"] (aH jM):=⟨rfl,rfl,rfl,by decide +kernel,rfl,by decide +kernel,by decide +kernel⟩
theorem ndPc:(["piece"]:List Str).Nodup:=by decide +kernel
theorem wM {f c C T fR:Addr} {fd fdR:FuncData} (F:vH K "greatest" "greatest" jM f fd c) (hT:codeHdIn K c T=true) (hB:vJ base mg) (hm:mg "min"=none) (TP:Pl K mg C)
  (GR:aJ P w K mg base CX0 1 fR fdR ["self"] (pN C)) (bR:aO K fdR ["self"] []) (mR:dE K C "rest" fR):aJ P w K mg base CX0 4 f fd ["pieces"] (tY C T):=by
 refine F.ok yH (fun vs H Q E h=>?_) (fun A outer s H vs Q E hr h=>?_)
 ·obtain⟨l,ps,cs,rfl,_⟩:=h
  rfl
 ·obtain⟨l,ps,cs,rfl,hl,pr,ne,tb,t⟩:=h
  refine⟨_,aI (aY (pe_minK rfl hr.u1 (by rfl) hm AhM (aA (pv 0) aB) (oW (AeX (q:=iB) (clos:=[]) rfl hT hB rfl rfl rfl trivial) uO))),?_⟩
  refine⟨_,rfl,tb,fun g c' ctv H1 kt nf tb1 hc1 hf1=>?_⟩
  have s1:dO H H1:=by
   obtain⟨qs,e,_⟩:=tb
   exact kt.toT e
  have hl1:=s1.at hl
  refine⟨l,g,ps,fun i=>((cs[i]?).map Pc.k).getD (0,0),fun H'=>aR H1 H',rfl,rfl,aR.refl _,fun H' j=>j _ _ hl1,ne,fun i p hp=>?_,fun i p H' (j:aR H1 H') hp best=>?_⟩
  ·obtain⟨pc,hpc,lv,hat,hld⟩:=cA pr hp
   obtain⟨dx,hdx⟩:=hat.sameT s1
   have ek:((cs[i]?).map Pc.k).getD (0,0)=pc.k:=by rw [hpc];rfl
   refine AbE (k:=1) (N:=["piece"]) (p:="piece") (J:=fun H'=>aR H1 H') (tb:=tTup (hG (tUn (rU fun i=>.int (-i)) (tMeth C "rest" (pN C) [] E0 (iE 0) oH)) (hG (tFld K (iE 0) "low") oH))) (fun H' j=>j _ _ hf1) (fun H' j=>j _ _ hc1) id hr.in1 ?S ?B ?body ?J
   case S=>exact⟨rfl,rfl,rfl,by decide +kernel,rfl,by decide +kernel,by decide +kernel⟩
   case B=>exact fun u=>rfl
   case body=>exact fun s' H' hr'=>cC (aA (sQ lZ (cM (pv 0) TP.cl mR GR hr' bR .nil aN)) (aA (aV (pv 0) rfl) aB))
   intro H' (j:aR H1 H')
   have hp':=j _ _ hdx
   refine⟨_,rfl,p,dx,_,rfl,hp',rfl,p,_,_,_,_,lv,rfl,⟨dx,hp'⟩,_,rfl,_,rfl,p,C,dx,_,_,rfl,hp',TP.cl,TP.nL,rfl,by show 2<=sizeLine;decide,fun r nr=>⟨⟨⟨r,rfl,?_⟩,fun b xs e=>?_⟩,j.trans (aK nr)⟩⟩
   ·rw [aD]
    show some (HO.tup [V.int (-(pc.h-pc.m)),V.int pc.l])=some (HO.tup [V.int (((cs[i]?).map Pc.k).getD (0,0)).1,V.int (((cs[i]?).map Pc.k).getD (0,0)).2])
    rw [ek]
    rfl
   ·exact aK nr _ _ e
  ·obtain⟨pc,hpc,_⟩:=cA pr hp
   refine t i p pc H' (kt.same j) (tb1.same j) hp hpc fun j' c'' hj=>?_
   have lj:j'<ps.length:=by
    have:=pr.length
    have:=(List.getElem?_eq_some_iff.mp hj).1
    omega
   have b:¬ ltP (((cs[j']?).map Pc.k).getD (0,0)) (((cs[i]?).map Pc.k).getD (0,0))/\(j'<i->ltP (((cs[i]?).map Pc.k).getD (0,0)) (((cs[j']?).map Pc.k).getD (0,0))):=best j' lj
   rw [hj,hpc] at b
   exact b
abbrev bf (pw sh d:Addr) (sp ev le nn nt mo:Int):List (Str × V):=[("work",.ref pw),("span",.int sp),("every",.int ev),("least",.int le),("sheet",.ref sh),("by_number",.ref d),("next_number",.int nn),("next_token",.int nt),("moment",.int mo)]
def dkv (ps:List Addr) (cs:List Pc):List (Key × V):=(cs.zip ps).map fun x=>((Sum.inl x.1.n:Key),V.ref x.2)
structure eR (CB CP:Addr) (H:Hp) (b pw sh d:Addr) (sp ev le nn nt mo:Int) (ps:List Addr) (cs:List Pc):Prop where
 ob:∃dx,H b=some (.ins CB dx (bf pw sh d sp ev le nn nt mo))
 dc:H d=some (.dK (dkv ps cs))
 pc:Paired (fV CP H) ps cs
theorem dF {C:Addr} {H H':Hp} {ps:List Addr} {cs:List Pc} (e:dO H H') (h:Paired (fV C H) ps cs):Paired (fV C H') ps cs:=bY (fun _ _ x=>x.sameT e) h
theorem eR.sameT {CB CP:Addr} {H H':Hp} {b pw sh d:Addr} {sp ev le nn nt mo:Int} {ps:List Addr} {cs:List Pc} (e:dO H H') (h:eR CB CP H b pw sh d sp ev le nn nt mo ps cs):eR CB CP H' b pw sh d sp ev le nn nt mo ps cs:=by
 obtain⟨⟨dx,h1⟩,h2,h3⟩:=h
 exact⟨⟨dx,e.at h1⟩,e.at h2,dF e h3⟩
structure Bl (K:PySem.W.Frag) (mg:Str->Option Value) (C:Addr):Prop where
 cl:Cls K C
 nW:NoAttr K C "work"
 nS:NoAttr K C "span"
 nE:NoAttr K C "every"
 nL:NoAttr K C "least"
 nH:NoAttr K C "sheet"
 nB:NoAttr K C "by_number"
 nN:NoAttr K C "next_number"
 nT:NoAttr K C "next_token"
 nM:NoAttr K C "moment"
 mgC:mg "Book"=some (.ref C)
theorem AhC {C:Addr} {H:Hp} {ps:List Addr} {cs:List Pc} (h:Paired (fV C H) ps cs):(dkv ps cs).map (·.2)=ps.map V.ref:=by
 unfold dkv
 rw [List.map_map]
 have e:(cs.zip ps).map (·.2)=ps:=List.map_snd_zip (Nat.le_of_eq h.length)
 conv=>rhs;rw [<- e]
 rw [List.map_map]
 rfl
theorem jT {C:Addr} {H:Hp} {ps:List Addr} {cs:List Pc} (h:Paired (fV C H) ps cs):(dkv ps cs).length=cs.length:=by
 unfold dkv
 rw [List.length_map,List.length_zip,h.length]
 omega
theorem vB {ps:List Addr} {cs:List Pc} {i:Nat} {e:Key × V} (h:(dkv ps cs)[i]?=some e):∃c p,cs[i]?=some c/\ps[i]?=some p/\e=(Sum.inl c.n,.ref p):=by
 unfold dkv at h
 rw [List.getElem?_map] at h
 cases hz:(cs.zip ps)[i]? with
 | none=>rw [hz] at h;cases h
 | some x=>
  rw [hz] at h
  cases h
  obtain⟨h1,h2⟩:=List.getElem?_zip_eq_some.mp hz
  exact⟨_,_,h1,h2,rfl⟩
theorem eW {α β:Type} {F:α->β->Prop}:∀{xs:List α} {ys:List β},Paired F xs ys->∀z ∈ ys.zip xs,F z.2 z.1
 | _,_,.nil,z,hz=>by simp at hz
 | _,_,.cons r t,z,hz=>by
  rcases List.mem_cons.mp (by simpa using hz) with rfl|hz
  ·exact r
  ·exact eW t z hz
theorem gD {α β:Type} {F:α->β->Prop}:∀{L:List (β × α)},(∀z ∈ L,F z.2 z.1)->Paired F (L.map (·.2)) (L.map (·.1))
 | [],_=>.nil
 | z::L,h=>.cons (h z (List.mem_cons_self ..)) (gD fun q hq=>h q (List.mem_cons_of_mem _ hq))
theorem byLow {C:Addr} {H:Hp} {ps:List Addr} {cs:List Pc} {ys:List V} (h:Paired (fV C H) ps cs) (b:ByKey (cs.map Pc.l) (ps.map V.ref) ys):∃(ps':List Addr) (cs':List Pc),ys=ps'.map V.ref/\cs'.Perm cs/\cs'.Pairwise (fun x y=>x.l<=y.l)/\∀H',Paired (fV C H') ps cs->Paired (fV C H') ps' cs':=by
 obtain⟨L,p1,rfl,p3⟩:=b
 have e1:(cs.map Pc.l).zip (ps.map V.ref)=(cs.zip ps).map fun x=>(x.1.l,V.ref x.2):=by
  rw [List.zip_map]
  rfl
 rw [e1] at p1
 obtain⟨M,m1,rfl⟩:=qK _ p1
 refine⟨M.map (·.2),M.map (·.1),by rw [List.map_map,List.map_map];rfl,?_,?_,fun H' h'=>gD fun z hz=>eW h' z (m1.mem_iff.mp hz)⟩
 ·have:=m1.map (·.1)
  rwa [List.map_fst_zip (Nat.le_of_eq h.length.symm)] at this
 ·rw [List.pairwise_map] at p3 ⊢
  exact p3
def pLam:Expr:=match cS iZ with
 | [.Return (some (.ListComp _ [⟨_,.Call _ _ [⟨_,e,_⟩] _,_,_⟩] _ _)) _]=>e
 | _=>.Constant .none 0 ⟨0,0,0,0⟩
def wH:Pos:=pLam.pos
abbrev lS:Str:="Book.pieces.<locals>.<lambda>"
def lY (H:Hp) (v:V) (c:Pc):Prop:=∃t lv,v=.ref t/\H t=some (.tup [.int c.n,.int c.l,.int c.h,.int c.m,lv])/\jW H lv c.o
theorem jW.move {H H':Hp} {lv:V} {o:Option (Int × Str × Int)} (f:∀q ys,H q=some (.tup ys)->H' q=some (.tup ys)) (x:jW H lv o):jW H' lv o:=by
 cases lv <;> cases o <;> first|exact x|exact f _ _ x
theorem lY.same {H H':Hp} {v:V} {c:Pc} (e:aR H H') (h:lY H v c):lY H' v c:=by
 obtain⟨t,lv,h1,h2,h3⟩:=h
 exact⟨t,lv,h1,e _ _ h2,h3.sameT (aR.toT e)⟩
theorem dO.free {H H':Hp} (e:dO H H') {a:Addr} (h:H' a=none) (hT:∀ps,H a≠some (.tbl ps)):H a=none:=by
 cases q:H a with
 | none=>rfl
 | some o=>
  rcases e a o q with ⟨ps,rfl⟩|z
  ·exact absurd q (hT ps)
  ·rw [h] at z
   cases z
def lE (CB CP T:Addr):Sp:=fun vs H Q _=>∃(b pw sh d:Addr) (sp ev le nn nt mo:Int) (ps:List Addr) (cs:List Pc),vs=[.ref b]/\eR CB CP H b pw sh d sp ev le nn nt mo ps cs/\cs.length<64/\Tab H T wH lS /\
 ∀(r:Addr) (H':Hp) (rs:List V) (cs':List Pc),cQ T H H'->H r=none->Tab H' T wH lS->H' r=some (.lst rs)->cs'.Perm cs->cs'.Pairwise (fun x y=>x.l<=y.l)->Paired (lY H') rs cs'->Q (.ref r) H'
theorem AeG:aP ["self"] ["self"] (aH iZ):=⟨rfl,rfl,rfl,by decide +kernel,rfl,by decide +kernel,by decide +kernel⟩
theorem AcM {f c CB CP T fS:Addr} {fd fdS:FuncData} (F:vH K "pieces" "Book.pieces" iZ f fd c) (hT:codeHdIn K c T=true) (hB:vJ base mg) (hm:mg "sorted"=none) (TB:Bl K mg CB) (TP:Pl K mg CP)
  (GS:aJ P w K mg base CX0 1 fS fdS ["self"] (tN CP)) (bS:aO K fdS ["self"] []) (mS:dE K CP "shown" fS):aJ P w K mg base CX0 4 f fd ["self"] (lE CB CP T):=by
 refine F.ok AeG (fun vs H Q E h=>?_) (fun A outer s H vs Q E hr h=>?_)
 ·obtain⟨b,pw,sh,d,sp,ev,le,nn,nt,mo,ps,cs,rfl,_⟩:=h
  rfl
 ·obtain⟨b,pw,sh,d,sp,ev,le,nn,nt,mo,ps,cs,rfl,hb,lc,tb,t⟩:=h
  have hr1:Room 1 (A.deeper (PyProof.Rows.envOfC "Book.pieces" (aH iZ) s.heap.objs.size f (.ref c))):=hr.mono (by decide)
  refine⟨_,aI (aY (oZ (NB:=["piece"]) (g:=dQ 0) rfl (by decide +kernel) (by decide +kernel) (by decide +kernel) rfl
   (oX (AeW rfl (by rfl) hm xH (aA (oY (aV (pv 0) rfl)) aB) (oW (AeX (q:=lS) (clos:=[]) rfl hT hB rfl rfl rfl trivial) uO)))
   (fun C s H fp pn=>cG (i:=0) ndPc rfl (Or.inl rfl) (.inr rfl)) (fun C s H fp pn=>gN) (fun C s H fp pn=>cM (pv 0) TP.cl mS GS hr1 bS .nil aN))),?_⟩
  have sl:sizeLine=16777216:=sizeLine_eq
  obtain⟨⟨dx,hbo⟩,hdc,hpc⟩:=id hb
  refine⟨_,rfl,b,CB,dx,_,_,rfl,hbo,TB.cl,TB.nB,rfl,.inr (.inr (.inl ⟨rfl,.inl ⟨_,hdc⟩⟩)),d,_,rfl,rfl,hdc,fun v nv=>?_⟩
  have s1:aR H (upd H v (eK v d)):=aK nv
  have e1:(upd H v (eK v d)) v=some (eK v d):=aD
  generalize upd H v (eK v d)=H1 at s1 e1 ⊢
  have tb1:=tb.same s1
  refine⟨tb1,fun g c' ctv H2 kt nf tb2 hc2 hf2=>?_⟩
  have s2:dO H1 H2:=by
   obtain⟨qs,e,_⟩:=tb1
   exact kt.toT e
  have t2:dO H H2:=(aR.toT s1).trans s2
  have nT:∀a,H2 a=none->H a=none:=fun a h=>by
   refine dO.free t2 h fun qs z=>?_
   obtain⟨rs,e,_⟩:=tb2
   by_cases y:a=T
   ·rw [y,e] at h
    cases h
   ·have:=kt _ _ y (s1 _ _ z)
    rw [h] at this
    cases this
  have hp2:=dF t2 hpc
  refine⟨v,d,g,dkv ps cs,cs.map Pc.l,fun H'=>aR H2 H',rfl,rfl,s2.at e1,s2.at (s1 _ _ hdc),aR.refl _,by rw [jT hpc,List.length_map],by rw [jT hpc];exact lc,fun i e k he hk=>?_,fun l ys H3 (j:aR H2 H3) nl bk=>?_⟩
  ·obtain⟨pc,p,h1,h2,rfl⟩:=vB he
   obtain⟨pc',h1',lv,⟨dp,hat⟩,hld⟩:=cA hp2 h2
   rw [h1] at h1'
   cases h1'
   rw [List.getElem?_map,h1] at hk
   cases hk
   refine AbE (k:=0) (N:=["piece"]) (p:="piece") (J:=fun H'=>aR H2 H') (tb:=tFld K (iE 0) "low") (fun H' j=>j _ _ hf2) (fun H' j=>j _ _ hc2) id (hr.in1).in1 ?S ?B ?body ?J
   case S=>exact⟨rfl,rfl,rfl,by decide +kernel,rfl,by decide +kernel,by decide +kernel⟩
   case B=>exact fun u=>rfl
   case body=>exact fun s' H' hr'=>aV (pv 0) rfl
   intro H' (j:aR H2 H')
   exact⟨_,rfl,p,CP,dp,_,_,rfl,j _ _ hat,TP.cl,TP.nL,rfl,rfl,j⟩
  ·rw [AhC hpc] at bk
   obtain⟨ps',cs',rfl,pm,so,mv⟩:=byLow hpc bk
   have lp:ps'.length=cs'.length:=(mv H hpc).length
   have lc':cs'.length=cs.length:=pm.length_eq
   refine⟨l,rfl,⟨_,SqL.of aD⟩,fun acc hacc=>?_⟩
   have s4:aR H3 (upd H3 l (.lst (ps'.map V.ref))):=aK nl
   have e4:(upd H3 l (.lst (ps'.map V.ref))) l=some (.lst (ps'.map V.ref)):=aD
   generalize upd H3 l (.lst (ps'.map V.ref))=H4 at s4 e4 hacc ⊢
   have j4:aR H2 H4:=j.trans s4
   have hp4:=mv H4 (dF (t2.trans (aR.toT j4)) hpc)
   refine⟨fun i m zs H'=>m=ps'.length-i/\i<=ps'.length/\aR H4 H'/\H' acc=some (.lst zs)/\Paired (lY H') zs (cs'.take i),⟨_,rfl,Nat.zero_le _,aK hacc,aD,.nil⟩,?_⟩
   rintro i m zs H' ⟨rfl,hi,sm,hA,rows⟩
   refine⟨hA,?_⟩
   by_cases hlt:i<ps'.length
   ·refine .inr ⟨⟨_,_,SqL.of (sm _ _ e4),List.getElem?_eq_getElem (by rw [List.length_map];exact hlt)⟩,?_⟩
    rintro y H'' ⟨rfl,hy⟩
    have ey:=hy _ (SqL.of (sm _ _ e4))
    rw [List.getElem?_map,List.getElem?_eq_getElem hlt] at ey
    cases ey
    obtain⟨pc,hpc',lv,⟨dp,hat⟩,hld⟩:=cA hp4 (List.getElem?_eq_getElem hlt)
    refine eQ ?_
    refine gM ?_
    refine eP ?_
    refine⟨_,rfl,_,dp,_,rfl,sm _ _ hat,rfl,_,_,_,_,_,lv,rfl,⟨dp,sm _ _ hat⟩,fun q nq=>?_⟩
    have s5:aR H'' (upd H'' q (.tup [.int pc.n,.int pc.l,.int pc.h,.int pc.m,lv])):=aK nq
    have e5:(upd H'' q (.tup [.int pc.n,.int pc.l,.int pc.h,.int pc.m,lv])) q=some (.tup [.int pc.n,.int pc.l,.int pc.h,.int pc.m,lv]):=aD
    generalize upd H'' q (.tup [.int pc.n,.int pc.l,.int pc.h,.int pc.m,lv])=H5 at s5 e5 ⊢
    have hA5:=s5 _ _ hA
    have lz:zs.length=i:=by
     have:=rows.length
     rw [List.length_take] at this
     omega
    refine⟨hA5,by omega,_,?_,rfl,hlt,?_,aD,?_⟩
    ·omega
    ·intro b o z
     rw [aG (aF z hacc)]
     exact s5 _ _ (sm _ _ z)
    ·have kp:∀v c,lY H'' v c->lY (upd H5 acc (.lst (zs++[.ref q]))) v c:=fun v c ⟨t',lv',h1,h2,h3⟩=>by
      have nt:t'≠acc:=aX (s5 _ _ h2) hA5 (by intro z;cases z)
      exact⟨t',lv',h1,by rw [aG nt];exact s5 _ _ h2,h3.move fun q' ys h=>by rw [aG (aX (s5 _ _ h) hA5 (by intro z;cases z))];exact s5 _ _ h⟩
     rw [List.take_add_one,hpc']
     refine dB (bY (fun v c=>kp v c) rows) ?_
     have nq':q≠acc:=aX e5 hA5 (by intro z;cases z)
     exact⟨q,lv,rfl,by rw [aG nq'];exact e5,hld.move fun q' ys h=>by rw [aG (aF h hacc)];exact s5 _ _ (sm _ _ h)⟩
   ·refine .inl ⟨⟨_,SqL.of (sm _ _ e4),by rw [List.length_map];omega⟩,?_⟩
    have ei:cs'.take i=cs':=List.take_of_length_le (by omega)
    rw [ei] at rows
    refine t acc H' zs cs' ((cQ.pre s1 kt).same (j4.trans sm)) (nT _ (j4.free hacc)) (tb2.same (j4.trans sm)) hA pm so rows
def kO:Sp:=fun vs H Q _=>∃(a b c:Int),vs=[.int a,.int b,.int c]/\1<=a/\1<=b/\1<=c/\b<=c/\∀H',aR H H'->Q .non H'
theorem bf_next {pw sh d:Addr} {sp ev le nn nt mo nn':Int}:dD "next_number" (.int nn') (bf pw sh d sp ev le nn nt mo)=bf pw sh d sp ev le nn' nt mo:=rfl
theorem AhD {C:Addr} {H:Hp} {ps:List Addr} {cs:List Pc} {p:Addr} {c:Pc} (h:Paired (fV C H) ps cs):dkv (ps++[p]) (cs++[c])=dkv ps cs++[(Sum.inl c.n,.ref p)]:=by
 unfold dkv
 rw [List.zip_append h.length.symm,List.map_append]
 rfl
def AaG (CB CP:Addr):Sp:=fun vs H Q _=>∃(b pw sh d:Addr) (sp ev le nn nt mo l h:Int) (ps:List Addr) (cs:List Pc),vs=[.ref b,.int l,.int h]/\eR CB CP H b pw sh d sp ev le nn nt mo ps cs/\(∀c ∈ cs,c.n<nn)/\cs.length<1000 /\
 ∀(p:Addr) (H':Hp),(∀a o,H a=some o->a≠b->a≠d->H' a=some o)->H p=none->eR CB CP H' b pw sh d sp ev le (nn+1) nt mo (ps++[p]) (cs++[⟨nn,l,h,l,none⟩])->Q (.ref p) H'
theorem vW:aP ["span","every","least","bound"] ["span","every","least"] (aH uM):=⟨rfl,rfl,rfl,by decide +kernel,rfl,by decide +kernel,by decide +kernel⟩
theorem wO {f fW:Addr} {fd fdW:FuncData} (F:Fun K "check_bounds" "check_bounds" uM f fd) (GW:aJ P w K mg base CX0 1 fW fdW ["thing"] dS) (kW:keepIn K (.ref fW)=true) (bW:aO K fdW ["thing"] []) (mW:mg "is_whole"=some (.ref fW)):aJ P w K mg base CX0 2 f fd ["span","every","least"] kO:=by
 refine F.ok vW (fun vs H Q E h=>?_) (fun cdv A outer s H vs Q E hr h=>?_)
 ·obtain⟨a,b,c,rfl,_⟩:=h
  rfl
 ·obtain⟨a,b,c,rfl,h1,h2,h3,h4,t⟩:=h
  refine⟨_,aC (eU PassesOwn.never rfl (jC (cC (aA (pv 0) (aA (pv 1) (aA (pv 2) aB))))) (cG (i:=3) vW.nd rfl (Or.inl rfl))
   (aI (cJ (PW.pt (gH (dA (cW (aL GW hr rfl mW kW bW .nil aN (aA (pv 3) aB)))) (eT (cB fX (pv 3) aE (bX _))))) cD bV)))
   (aI (cJ (cB fX (pv 2) (pv 1) (bX _)) cD bV)),?_⟩
  refine⟨_,rfl,_,rfl,_,rfl,by show 3<=sizeLine;decide,fun r nr=>?_⟩
  have s1:aR H (upd H r (.tup [.int a,.int b,.int c])):=aK nr
  have e1:(upd H r (.tup [.int a,.int b,.int c])) r=some (.tup [.int a,.int b,.int c]):=aD
  generalize upd H r (.tup [.int a,.int b,.int c])=H1 at s1 e1 ⊢
  have al:∀v ∈ [V.int a,.int b,.int c],∃i,v=.int i/\1<=i:=aQ ⟨_,rfl,h1⟩ (aQ ⟨_,rfl,h2⟩ (aQ ⟨_,rfl,h3⟩ cF))
  refine⟨r,rfl,⟨_,SqT.of e1⟩,lV (K:=K) (a:=r) (xs:=[V.int a,.int b,.int c]) (fun i σ G=>G=H1/\∃u,σ=[some (.int a),some (.int b),some (.int c),u]) ⟨rfl,_,rfl⟩ (fun i σ G _ h=>by rw [h.1];exact SqT.of e1) ?_ ?_⟩
  ·rintro i y σ G hi ⟨rfl,u,rfl⟩
   obtain⟨z,rfl,hz⟩:=al y (List.mem_of_getElem? hi)
   refine eQ ?_
   refine⟨_,rfl,_,rfl,.kn (.int z),_,rfl,dH ?_⟩
   refine⟨_,rfl,_,_,rfl,rfl,_,rfl,?_⟩
   exact eF (fun hc=>absurd hc (by simp;omega)) fun _=>⟨rfl,_,rfl⟩
  ·rintro σ G ⟨rfl,u,rfl⟩
   refine⟨_,rfl,_,rfl,_,_,rfl,rfl,_,rfl,?_⟩
   exact eF (fun hc=>absurd hc (by simp;omega)) fun _=>t _ s1
theorem scNew:aP ["self","low","high","piece"] ["self","low","high"] (aH AaO):=⟨rfl,rfl,rfl,by decide +kernel,rfl,by decide +kernel,by decide +kernel⟩
theorem ok_new {f CB CP fI:Addr} {fd fdI:FuncData} (F:Fun K "new_piece" "Book.new_piece" AaO f fd) (TB:Bl K mg CB) (TP:Pl K mg CP) (GI:aJ P w K mg base CX0 1 fI fdI ["self","number","low","high"] (tP CP)) (bI:aO K fdI ["self","number","low","high"] []) (MK:Mk K CP fI):
  aJ P w K mg base CX0 3 f fd ["self","low","high"] (AaG CB CP):=by
 refine F.ok scNew (fun vs H Q E h=>?_) (fun cdv A outer s H vs Q E hr h=>?_)
 ·obtain⟨b,pw,sh,d,sp,ev,le,nn,nt,mo,l,h',ps,cs,rfl,_⟩:=h
  rfl
 ·obtain⟨b,pw,sh,d,sp,ev,le,nn,nt,mo,l,h',ps,cs,rfl,hb,lt,ln,t⟩:=h
  have hu:(A.deeper (PyProof.Rows.envOfC "Book.new_piece" (aH AaO) s.heap.objs.size f cdv)).units+1<cLine:=by have:=hr.un;omega
  refine⟨_,aC (aU (i:=3) scNew.nd rfl (Or.inl rfl) (uS MK GI hr rfl TP.mgC bI .nil aN (aA (aV (pv 0) rfl) (aA (pv 1) (aA (pv 2) aB)))))
   (aC (AaT hu (aV (pv 0) rfl) (aV (pv 3) rfl) (pv 3) rfl)
   (aC (sP (pv 0) aE AgM) (aI (aY (pv 3))))),?_⟩
  have sl:sizeLine=16777216:=sizeLine_eq
  obtain⟨⟨dx,hbo⟩,hdc,hpc⟩:=id hb
  refine⟨_,rfl,b,CB,dx,_,_,rfl,hbo,TB.cl,TB.nN,rfl,_,rfl,_,rfl,fun x dy nx ny ne=>⟨x,dy,nn,l,h',rfl,aD,rfl,?_⟩⟩
  rw [eI]
  have k2:∀a o,H a=some o->(upd (upd H dy (.own x)) x (.ins CP dy (pf nn l h' l .non))) a=some o:=fun a o e=>by
   rw [aG (aF e nx),aG (aF e ny)]
   exact e
  have e2:(upd (upd H dy (.own x)) x (.ins CP dy (pf nn l h' l .non))) x=some (.ins CP dy (pf nn l h' l .non)):=aD
  generalize upd (upd H dy (.own x)) x (.ins CP dy (pf nn l h' l .non))=H2 at k2 e2 ⊢
  refine⟨_,rfl,_,rfl,b,CB,dx,_,_,rfl,k2 _ _ hbo,TB.cl,TB.nB,rfl,_,rfl,x,CP,dy,_,_,rfl,e2,TP.cl,TP.nN,rfl,d,_,rfl,DPut.k (k:=(Sum.inl nn:Key)) (k2 _ _ hdc) (by rw [jT hpc];omega),?_⟩
  rw [wB _ (jJ.mpr fun e he=>?_)]
  rotate_left
  ·obtain⟨i,hi⟩:=List.mem_iff_getElem?.mp he
   obtain⟨c,p,h1,_,rfl⟩:=vB hi
   have:=lt c (List.mem_of_getElem? h1)
   intro z
   have z:(Sum.inl c.n:Key)=Sum.inl nn:=z
   cases z
   omega
  have nbd:b≠d:=aX hbo hdc (by intro z;cases z)
  have nbx:b≠x:=aF hbo nx
  have ndx:d≠x:=aF hdc nx
  refine⟨_,rfl,b,CB,dx,_,_,rfl,(by rw [aG nbd];exact k2 _ _ hbo),TB.cl,TB.nN,rfl,_,_,rfl,rfl,dx,_,(by rw [aG nbd];exact k2 _ _ hbo),(by show 9<1000;decide),?_⟩
  have k4:∀a o,H2 a=some o->a≠b->a≠d->(upd (upd H2 d (.dK (dkv ps cs++[((Sum.inl nn:Key),V.ref x)]))) b (.ins CB dx (dD "next_number" (.int (nn+1)) (bf pw sh d sp ev le nn nt mo)))) a=some o:=fun a o e n1 n2=>by
   rw [aG n1,aG n2]
   exact e
  refine⟨_,rfl,t x _ (fun a o e n1 n2=>k4 a o (k2 a o e) n1 n2) nx ⟨⟨dx,by rw [aD,bf_next]⟩,by rw [aG nbd.symm,aD,AhD hpc],?_⟩⟩
  refine dB (bY (fun p c ⟨lv,⟨dp,ha⟩,hl⟩=>?_) hpc) ⟨.non,⟨dy,k4 _ _ e2 nbx.symm ndx.symm⟩,trivial⟩
  have npb:p≠b:=fun z=>by
   subst z
   rw [hbo] at ha
   have:=Option.some.inj ha
   injection this with _ _ e
   exact absurd e (by intro z;cases z)
  exact⟨lv,⟨dp,k4 _ _ (k2 _ _ ha) npb (aX ha hdc (by intro z;cases z))⟩,hl.move fun q ys h=>k4 _ _ (k2 _ _ h) (aX h hbo (by intro z;cases z)) (aX h hdc (by intro z;cases z))⟩
def pcs:Nat->Lm.Ps->List Pc
 | _,[]=>[]
 | k,q::t=>⟨k,q.1,q.2,q.1,none⟩::pcs (k+1) t
theorem wG:∀(t:Lm.Ps) (k:Nat) (q:Int × Int),pcs k (t++[q])=pcs k t++[⟨((k+t.length:Nat):Int),q.1,q.2,q.1,none⟩]
 | [],k,q=>rfl
 | p::t,k,q=>by
  show _::pcs (k+1) (t++[q])=_::(pcs (k+1) t++_)
  rw [wG t (k+1) q]
  have e:k+1+t.length=k+(p::t).length:=by rw [List.length_cons];omega
  rw [e]
theorem uT:∀(t:Lm.Ps) (k:Nat),(pcs k t).length=t.length
 | [],_=>rfl
 | p::t,k=>by
  show (pcs (k+1) t).length+1=t.length+1
  rw [uT t]
theorem AfD:∀(t:Lm.Ps) (k:Nat),∀c ∈ pcs k t,c.n<((k+t.length:Nat):Int)
 | [],_,c,hc=>absurd hc (by simp [pcs])
 | p::t,k,c,hc=>by
  rcases List.mem_cons.mp hc with rfl|hc
  ·show (k:Int)<_
   rw [List.length_cons]
   omega
  ·have:=AfD t (k+1) c hc
   rw [List.length_cons]
   omega
def tW (CB CS CP:Addr):Sp:=fun vs H Q _=>∃(p dx q:Addr) (a:Lm.Ps) (sp ev le:Int),vs=[.ref p,.ref q,.int sp,.int ev,.int le]/\H p=some (.ins CB dx [])/\dR H q a/\Lm.Wk a/\a.length<=900/\1<=sp/\1<=ev/\1<=le/\ev<=le /\
 ∀(sh spw sd d:Addr) (ws:Lm.Ps) (ps:List Addr) (H':Hp),(∀b o,H b=some o->b≠p->H' b=some o)->H d=none->H sd=none->sd≠d->cO CS H' sh spw sd ws []->Lm.Sh ws->(∀x,Lm.mem ws x↔Lm.mem a x)->ws.length<=a.length ->
  eR CB CP H' p q sh d sp ev le a.length 0 0 ps (pcs 0 a)->Q .non H'
abbrev w4 (q:Addr) (sp ev le:Int):List (Str × V):=[("work",.ref q),("span",.int sp),("every",.int ev),("least",.int le)]
theorem f4 {q:Addr} {sp ev le:Int}:dD "least" (.int le) (dD "every" (.int ev) (dD "span" (.int sp) (dD "work" (.ref q) [])))=(w4 q sp ev le):=rfl
theorem f9 {q sh d:Addr} {sp ev le:Int}:dD "moment" (.int 0) (dD "next_token" (.int 0) (dD "next_number" (.int 0) (dD "by_number" (.ref d) (dD "sheet" (.ref sh) (w4 q sp ev le)))))=bf q sh d sp ev le 0 0 0:=rfl
theorem uC:aP ["self","work","span","every","least","low","high"] ["self","work","span","every","least"] (aH mY):=⟨rfl,rfl,rfl,by decide +kernel,rfl,by decide +kernel,by decide +kernel⟩
theorem AfT {f CB CS CP fC fB fI fN:Addr} {fd fdC fdB fdI fdN:FuncData} (F:Fun K "__init__" "Book.__init__" mY f fd) (TB:Bl K mg CB) (TS:Cl K mg CS)
  (GC:aJ P w K mg base CX0 4 fC fdC ["work"] oR) (kC:keepIn K (.ref fC)=true) (bC:aO K fdC ["work"] []) (mC:mg "check_work"=some (.ref fC))
  (GB:aJ P w K mg base CX0 2 fB fdB ["span","every","least"] kO) (kB:keepIn K (.ref fB)=true) (bB:aO K fdB ["span","every","least"] []) (mB:mg "check_bounds"=some (.ref fB))
  (GI:aJ P w K mg base CX0 6 fI fdI ["self","work"] (xY CS)) (bI:aO K fdI ["self","work"] []) (MK:Mk K CS fI)
  (GN:aJ P w K mg base CX0 3 fN fdN ["self","low","high"] (AaG CB CP)) (bN:aO K fdN ["self","low","high"] []) (mN:dE K CB "new_piece" fN):
  aJ P w K mg base CX0 8 f fd ["self","work","span","every","least"] (tW CB CS CP):=by
 refine F.ok uC (fun vs H Q E h=>?_) (fun cdv A outer s H vs Q E hr h=>?_)
 ·obtain⟨p,dx,q,a,sp,ev,le,rfl,_⟩:=h
  rfl
 ·obtain⟨p,dx,q,a,sp,ev,le,rfl,hp,hw,wa,la,b1,b2,b3,b4,t⟩:=h
  have hr2:Room 2 (A.deeper (PyProof.Rows.envOfC "Book.__init__" (aH mY) s.heap.objs.size f cdv)):=hr.mono (by decide)
  have hr3:Room 3 (A.deeper (PyProof.Rows.envOfC "Book.__init__" (aH mY) s.heap.objs.size f cdv)):=hr.mono (by decide)
  have hr4:Room 4 (A.deeper (PyProof.Rows.envOfC "Book.__init__" (aH mY) s.heap.objs.size f cdv)):=hr.mono (by decide)
  refine⟨_,aC (cT (aL GC hr4 rfl mC kC bC .nil aN (aA (pv 1) aB)))
   (aC (cT (aL GB hr2 rfl mB kB bB .nil aN (aA (pv 2) (aA (pv 3) (aA (pv 4) aB)))))
   (aC (dJ (pv 0) (pv 1) rfl) (aC (dJ (pv 0) (pv 2) rfl) (aC (dJ (pv 0) (pv 3) rfl) (aC (dJ (pv 0) (pv 4) rfl)
   (aC (dJ (pv 0) (uS MK GI hr rfl TS.mgC bI .nil aN (aA (pv 1) aB)) rfl)
   (aC (dJ (pv 0) jE rfl) (aC (dJ (pv 0) aE rfl) (aC (dJ (pv 0) aE rfl) (aC (dJ (pv 0) aE rfl)
   (aI (eU PassesOwn.never rfl (jC (pv 1)) (jD (n:=2) rfl (cX (cG (i:=5) uC.nd rfl (Or.inl rfl)) (cX (cG (i:=6) uC.nd rfl (Or.inl rfl)) gB)))
    (aI (cT (cU (pv 0) TB.cl mN GN hr3 bN .nil aN (aA (pv 5) (aA (pv 6) aB))))))))))))))))),?_⟩
  have sl:sizeLine=16777216:=sizeLine_eq
  refine⟨_,rfl,q,a,rfl,hw,wa,by omega,?_⟩
  refine⟨_,rfl,_,rfl,_,rfl,sp,ev,le,rfl,b1,b2,b3,b4,fun H1 s1=>?_⟩
  refine⟨_,rfl,_,rfl,p,CB,dx,_,rfl,s1 _ _ hp,TB.cl,TB.nW,(by show 0<1000;decide),?_⟩
  refine⟨_,rfl,_,rfl,p,CB,dx,_,rfl,aD,TB.cl,TB.nS,(by show 1<1000;decide),?_⟩
  refine⟨_,rfl,_,rfl,p,CB,dx,_,rfl,aD,TB.cl,TB.nE,(by show 2<1000;decide),?_⟩
  refine⟨_,rfl,_,rfl,p,CB,dx,_,rfl,aD,TB.cl,TB.nL,(by show 3<1000;decide),?_⟩
  rw [eI,eI,eI,f4]
  have k2:∀b o,H b=some o->b≠p->(upd H1 p (.ins CB dx (w4 q sp ev le))) b=some o:=fun b o e n=>by rw [aG n];exact s1 _ _ e
  have e2:(upd H1 p (.ins CB dx (w4 q sp ev le))) p=some (.ins CB dx (w4 q sp ev le)):=aD
  have n2:∀b,(upd H1 p (.ins CB dx (w4 q sp ev le))) b=none->H b=none:=fun b e=>by
   cases z:H b with
   | none=>rfl
   | some o=>
    by_cases y:b=p
    ·rw [y,aD] at e
     cases e
    ·rw [k2 b o z y] at e
     cases e
  generalize upd H1 p (.ins CB dx (w4 q sp ev le))=H2 at k2 e2 n2 ⊢
  have hw2:dR H2 q a:=by
   obtain⟨xs,x1,x2⟩:=hw
   refine⟨xs,k2 _ _ x1 (aX x1 hp (by intro z;cases z)),bY (fun v r ⟨b,z1,z2⟩=>⟨b,z1,k2 _ _ z2 (aX z2 hp (by intro z;cases z))⟩) x2⟩
  refine⟨_,rfl,fun x dy nx ny ne=>⟨x,dy,q,a,rfl,aD,?_,wa,by omega,fun pw' sd ws H3 nsd S sh mm ll kp=>⟨rfl,?_⟩⟩⟩
  ·exact hw2.same fun b o e=>by rw [aG (aF e nx),aG (aF e ny)];exact e
  have k3:∀b o,H2 b=some o->H3 b=some o:=fun b o e=>kp b o (by rw [aG (aF e nx),aG (aF e ny)];exact e) (aF e nx)
  have nsd2:H2 sd=none:=by
   cases z:H2 sd with
   | none=>rfl
   | some o=>
    rw [aG (aF z nx),aG (aF z ny),z] at nsd
    cases nsd
  have hw3:=hw2.same k3
  refine⟨_,rfl,p,CB,dx,_,rfl,k3 _ _ e2,TB.cl,TB.nH,(by show 4<1000;decide),?_⟩
  intro d nd
  have npd:p≠d:=fun z=>by
   rw [<- z,aD] at nd
   cases nd
  have nd3:H3 d=none:=by rw [aG npd.symm] at nd;exact nd
  have nd2:H2 d=none:=by
   cases z:H2 d with
   | none=>rfl
   | some o=>rw [k3 _ _ z] at nd3;cases nd3
  refine⟨_,rfl,p,CB,dx,_,rfl,(by rw [aG npd];exact aD),TB.cl,TB.nB,(by show 5<1000;decide),?_⟩
  refine⟨_,rfl,p,CB,dx,_,rfl,aD,TB.cl,TB.nN,(by show 6<1000;decide),?_⟩
  refine⟨_,rfl,p,CB,dx,_,rfl,aD,TB.cl,TB.nT,(by show 7<1000;decide),?_⟩
  refine⟨_,rfl,p,CB,dx,_,rfl,aD,TB.cl,TB.nM,(by show 8<1000;decide),?_⟩
  rw [eI,eI,eI,f9]
  have k5:∀b o,H3 b=some o->b≠p->(upd (upd (upd H3 p (.ins CB dx (dD "sheet" (.ref x) (w4 q sp ev le)))) d (.dK [])) p (.ins CB dx (bf q x d sp ev le 0 0 0))) b=some o:=fun b o e n=>by
   rw [aG n,aG (aF e nd3),aG n]
   exact e
  have e5:(upd (upd (upd H3 p (.ins CB dx (dD "sheet" (.ref x) (w4 q sp ev le)))) d (.dK [])) p (.ins CB dx (bf q x d sp ev le 0 0 0))) p=some (.ins CB dx (bf q x d sp ev le 0 0 0)):=aD
  have d5:(upd (upd (upd H3 p (.ins CB dx (dD "sheet" (.ref x) (w4 q sp ev le)))) d (.dK [])) p (.ins CB dx (bf q x d sp ev le 0 0 0))) d=some (.dK []):=by rw [aG npd.symm,aD]
  generalize upd (upd (upd H3 p (.ins CB dx (dD "sheet" (.ref x) (w4 q sp ev le)))) d (.dK [])) p (.ins CB dx (bf q x d sp ev le 0 0 0))=H5 at k5 e5 d5 ⊢
  have ep3:H3 p=some (.ins CB dx (w4 q sp ev le)):=k3 _ _ e2
  have nsdd:sd≠d:=fun z=>by
   have:=S.dc
   rw [z,nd3] at this
   cases this
  have mv:∀G:Hp,(∀b o,H3 b=some o->b≠p->b≠d->G b=some o)->dR G q a/\cO CS G x pw' sd ws []:=fun G kg=>by
   have wm:∀r ps',dR H3 r ps'->dR G r ps':=fun r ps' ⟨xs,x1,x2⟩=>⟨xs,kg _ _ x1 (aX x1 ep3 (by intro z;cases z)) (aF x1 nd3),bY (fun v r ⟨b,z1,z2⟩=>⟨b,z1,kg _ _ z2 (aX z2 ep3 (by intro z;cases z)) (aF z2 nd3)⟩) x2⟩
   obtain⟨⟨dz,s1'⟩,s2',s3'⟩:=S
   have nxp:x≠p:=fun z=>by
    rw [z,e2] at nx
    cases nx
   exact⟨wm _ _ hw3,⟨dz,kg _ _ s1' nxp (aF s1' nd3)⟩,wm _ _ s2',kg _ _ s3' (aX s3' ep3 (by intro z;cases z)) nsdd⟩
  obtain⟨xs,x1,x2⟩:=id hw3
  have lx:xs.length=a.length:=x2.length
  refine⟨_,rfl,q,rfl,⟨_,SqT.of (k5 _ _ x1 (aX x1 ep3 (by intro z;cases z)))⟩,lV (K:=K) (a:=q) (xs:=xs) (fun i σ G=>(∃ps,eR CB CP G p q x d sp ev le i 0 0 ps (pcs 0 (a.take i)))/\(∀b o,H3 b=some o->b≠p->b≠d->G b=some o)/\∃u v,σ=[some (.ref p),some (.ref q),some (.int sp),some (.int ev),some (.int le),u,v])
   ⟨⟨[],⟨dx,e5⟩,d5,.nil⟩,fun b o e n _=>k5 b o e n,_,_,rfl⟩ (fun i σ G _ ⟨_,kg,_⟩=>SqT.of (kg _ _ x1 (aX x1 ep3 (by intro z;cases z)) (aF x1 nd3))) ?_ ?_⟩
  ·rintro i y σ G hi ⟨⟨ps,hb⟩,kg,u,v,rfl⟩
   obtain⟨c,hc,r,rfl,hr'⟩:=cA x2 hi
   have il:i<a.length:=(List.getElem?_eq_some_iff.mp hc).1
   have lt:(a.take i).length=i:=by rw [List.length_take];omega
   refine⟨r,_,rfl,SqT.of (kg _ _ hr' (aX hr' ep3 (by intro z;cases z)) (aF hr' nd3)),rfl,_,_,rfl,_,_,rfl,rfl,?_⟩
   obtain⟨dz,hbo⟩:=hb.ob
   refine⟨_,rfl,p,dz,_,rfl,hbo,rfl,_,rfl,_,rfl,p,q,x,d,sp,ev,le,_,0,0,c.1,c.2,ps,_,rfl,hb,fun c' hc'=>?_,?_,fun p' G' kf np' hb'=>?_⟩
   ·have:=AfD _ _ c' hc'
    rw [lt] at this
    omega
   ·rw [uT,lt]
    omega
   ·refine⟨⟨ps++[p'],?_⟩,fun b o e n1 n2=>kf b o (kg b o e n1 n2) n1 n2,_,_,rfl⟩
    have e:pcs 0 (a.take (i+1))=pcs 0 (a.take i)++[⟨(i:Int),c.1,c.2,c.1,none⟩]:=by
     rw [List.take_add_one,hc]
     show pcs 0 (a.take i++[c])=_
     rw [wG,lt]
     simp
    rw [e]
    exact hb'
  ·rintro σ G ⟨⟨ps,hb⟩,kg,u,v,rfl⟩
   rw [lx,List.take_of_length_le (Nat.le_refl _)] at hb
   have:=mv G kg
   exact t x pw' sd d ws ps G (fun b o e n=>kg b o (k3 _ _ (k2 b o e n)) n (aF (k2 b o e n) nd2)) (n2 _ nd2) (n2 _ nsd2) nsdd this.2 sh mm ll hb
def BkOb (CB:Addr) (H:Hp) (b pw sh d:Addr) (sp ev le nn nt mo:Int):Prop:=∃dx,H b=some (.ins CB dx (bf pw sh d sp ev le nn nt mo))
def vO (CB:Addr):Sp:=fun vs H Q _=>∃(b pw sh d:Addr) (sp ev le nn nt mo:Int),vs=[.ref b]/\BkOb CB H b pw sh d sp ev le nn nt mo/\Q (.int mo) H
def sJ (CB CS:Addr) (sp':Sp):Sp:=fun vs H Q E=>∃(b pw sh d pw' d':Addr) (sp ev le nn nt mo:Int) (ws:Lm.Ps) (kvs:List (Key × V)),vs=[.ref b]/\BkOb CB H b pw sh d sp ev le nn nt mo/\cO CS H sh pw' d' ws kvs/\sp' [.ref sh] H Q E
def oP (CB:Addr):Sp:=fun vs H Q _=>∃(b pw sh d:Addr) (sp ev le nn nt mo i:Int),vs=[.ref b,.int i]/\BkOb CB H b pw sh d sp ev le nn nt mo/\mo<=i/\Q .non H
theorem scNow:aP ["self"] ["self"] (aH sKNow):=⟨rfl,rfl,rfl,by decide +kernel,rfl,by decide +kernel,by decide +kernel⟩
theorem ok_now {f CB:Addr} {fd:FuncData} (F:Fun K "moment_now" "Book.moment_now" sKNow f fd) (TB:Bl K mg CB):aJ P w K mg base CX0 1 f fd ["self"] (vO CB):=by
 refine F.ok scNow (fun vs H Q E h=>?_) (fun cdv A outer s H vs Q E hr h=>?_)
 ·obtain⟨b,pw,sh,d,sp,ev,le,nn,nt,mo,rfl,_⟩:=h
  rfl
 ·obtain⟨b,pw,sh,d,sp,ev,le,nn,nt,mo,rfl,⟨dx,hb⟩,t⟩:=h
  exact⟨_,aI (aY (aV (pv 0) rfl)),_,rfl,b,CB,dx,_,_,rfl,hb,TB.cl,TB.nM,rfl,t⟩
theorem scKAll:aP ["self"] ["self"] (aH sKAll):=⟨rfl,rfl,rfl,by decide +kernel,rfl,by decide +kernel,by decide +kernel⟩
theorem ok_kall {f CB CS fA:Addr} {fd fdA:FuncData} {sp':Sp} {k:Nat} (F:Fun K "all_results" "Book.all_results" sKAll f fd) (TB:Bl K mg CB) (TS:Cl K mg CS) (GA:aJ P w K mg base CX0 k fA fdA ["self"] (fun vs H Q _=>sp' vs H Q E0)) (bA:aO K fdA ["self"] []) (mA:dE K CS "all_results" fA):
  aJ P w K mg base CX0 (k+1) f fd ["self"] (sJ CB CS fun vs H Q _=>sp' vs H Q E0):=by
 refine F.ok scKAll (fun vs H Q E h=>?_) (fun cdv A outer s H vs Q E hr h=>?_)
 ·obtain⟨b,pw,sh,d,pw',d',sp,ev,le,nn,nt,mo,ws,kvs,rfl,_⟩:=h
  rfl
 ·obtain⟨b,pw,sh,d,pw',d',sp,ev,le,nn,nt,mo,ws,kvs,rfl,⟨dx,hb⟩,hs,t⟩:=h
  obtain⟨dz,hz⟩:=hs.ob
  refine⟨_,aI (aY (cM (aV (pv 0) rfl) TS.cl mA GA hr bA .nil aN)),?_⟩
  exact⟨_,rfl,b,CB,dx,_,_,rfl,hb,TB.cl,TB.nH,rfl,sh,dz,_,rfl,hz,gQ _ _ (by decide +kernel) (by decide +kernel),t⟩
theorem scKLeft:aP ["self"] ["self"] (aH yU):=⟨rfl,rfl,rfl,by decide +kernel,rfl,by decide +kernel,by decide +kernel⟩
theorem AfS {f CB CS fA:Addr} {fd fdA:FuncData} {sp':Sp} {k:Nat} (F:Fun K "left_work" "Book.left_work" yU f fd) (TB:Bl K mg CB) (TS:Cl K mg CS) (GA:aJ P w K mg base CX0 k fA fdA ["self"] (fun vs H Q _=>sp' vs H Q E0)) (bA:aO K fdA ["self"] []) (mA:dE K CS "left_work" fA):
  aJ P w K mg base CX0 (k+1) f fd ["self"] (sJ CB CS fun vs H Q _=>sp' vs H Q E0):=by
 refine F.ok scKLeft (fun vs H Q E h=>?_) (fun cdv A outer s H vs Q E hr h=>?_)
 ·obtain⟨b,pw,sh,d,pw',d',sp,ev,le,nn,nt,mo,ws,kvs,rfl,_⟩:=h
  rfl
 ·obtain⟨b,pw,sh,d,pw',d',sp,ev,le,nn,nt,mo,ws,kvs,rfl,⟨dx,hb⟩,hs,t⟩:=h
  obtain⟨dz,hz⟩:=hs.ob
  refine⟨_,aI (aY (cM (aV (pv 0) rfl) TS.cl mA GA hr bA .nil aN)),?_⟩
  exact⟨_,rfl,b,CB,dx,_,_,rfl,hb,TB.cl,TB.nH,rfl,sh,dz,_,rfl,hz,gQ _ _ (by decide +kernel) (by decide +kernel),t⟩
theorem scMom:aP ["self","moment"] ["self","moment"] (aH qE):=⟨rfl,rfl,rfl,by decide +kernel,rfl,by decide +kernel,by decide +kernel⟩
theorem AfL {f CB fW:Addr} {fd fdW:FuncData} (F:Fun K "check_moment" "Book.check_moment" qE f fd) (TB:Bl K mg CB) (GW:aJ P w K mg base CX0 1 fW fdW ["thing"] dS) (kW:keepIn K (.ref fW)=true) (bW:aO K fdW ["thing"] []) (mW:mg "is_whole"=some (.ref fW)):aJ P w K mg base CX0 2 f fd ["self","moment"] (oP CB):=by
 refine F.ok scMom (fun vs H Q E h=>?_) (fun cdv A outer s H vs Q E hr h=>?_)
 ·obtain⟨b,pw,sh,d,sp,ev,le,nn,nt,mo,i,rfl,_⟩:=h
  rfl
 ·obtain⟨b,pw,sh,d,sp,ev,le,nn,nt,mo,i,rfl,⟨dx,hb⟩,hi,t⟩:=h
  refine⟨_,aI (cJ (PW.pt (gH (dA (cW (aL GW hr rfl mW kW bW .nil aN (aA (pv 1) aB)))) (eT (cB fX (pv 1) (aV (pv 0) rfl) (bX _))))) cD bV),?_⟩
  refine⟨_,rfl,_,rfl,.kn (.int i),_,rfl,dH ?_⟩
  refine⟨_,rfl,_,rfl,b,CB,dx,_,_,rfl,hb,TB.cl,TB.nM,rfl,_,_,rfl,rfl,_,rfl,?_⟩
  exact eF (fun hc=>absurd hc (by simp;omega)) fun _=>t
theorem sG {H H1:Hp} {a:Addr} {o:Obj} {u:HO} (e:H a=some u) (s:aR (upd H a (.frz o u)) H1):aR H (upd H1 a u):=fun b v h=>by
 by_cases z:b=a
 ·subst z
  rw [e] at h
  cases h
  exact aD
 ·rw [aG z]
  exact s b v (by rw [aG z];exact h)
theorem AgQ {H:Hp} {a b:Addr} {u o:HO} (e:H a=some u) (n:(upd H a o) b=none):H b=none/\b≠a:=by
 have nb:b≠a:=fun z=>by
  rw [z,aD] at n
  cases n
 rw [aG nb] at n
 exact⟨n,nb⟩
def Pc.free (c:Pc):Bool:=c.o.isNone && !decide (c.m=c.h)
theorem iY:aP ["self","moment","piece","free","lent","late"] ["self","moment"] (aH jA):=⟨rfl,rfl,rfl,by decide +kernel,rfl,by decide +kernel,by decide +kernel⟩
def lX (x:Str):Prop:=1<=x.length/\x.length<=8/\x.cps.all (·<128)=true/\∀(i:Nat) c,x.cps[i]?=some c->(!decide ((⟨#[c]⟩:Str).cps.toList<("a":Str).cps.toList))=true/\(!decide (("z":Str).cps.toList<(⟨#[c]⟩:Str).cps.toList))=true
def kH:Sp:=fun vs H Q _=>∃x,vs=[.str x]/\lX x/\∀H',aR H H'->Q (.bl true) H'
def iF:Sp:=fun vs H Q _=>∃x,vs=[.str x]/\lX x/\∀H',aR H H'->Q .non H'
theorem ndSign:(["sign"]:List Str).Nodup:=by decide +kernel
theorem xG:bootBuiltins "str"=some (.type "str"):=by decide +kernel
theorem gY {b:Bool} {A B:Prop} (h:b=true) (x:A):if b=true then A else B:=by rw [if_pos h];exact x
theorem eX {b:Bool} {A B:Prop} (h:b=false) (x:B):if b=true then A else B:=by rw [if_neg (by rw [h];simp)];exact x
theorem AeF:aP ["thing"] ["thing"] (aH uE):=⟨rfl,rfl,rfl,by decide +kernel,rfl,by decide +kernel,by decide +kernel⟩
theorem wJ {f:Addr} {fd:FuncData} (F:Fun K "is_worker" "is_worker" uE f fd) (G:Gb mg) (hs:mg "str"=none):aJ P w K mg base CX0 1 f fd ["thing"] kH:=by
 refine F.ok AeF (fun vs H Q E h=>?_) (fun cdv A outer s H vs Q E hr h=>?_)
 ·obtain⟨x,rfl,_⟩:=h
  rfl
 ·obtain⟨x,rfl,⟨w1,w2,w3,w4⟩,t⟩:=h
  refine⟨_,aC (cJ (PW.pt (gH (dA (cW (aS aW (by rfl) G.isi cH (aA (pv 0) (aA (gC (v:=.ty "str") (by rfl) hs xG rfl) aB))))) (eT (dA (lQ lT lT aE (aS vE (by rfl) G.len PySem.boot_len (aA (pv 0) aB)) aE))))) (aI (aY lR)) bV)
   (aI (aY (aS (xF rfl) (by rfl) G.all xI (aA (oZ (NB:=["sign"]) (g:=dQ 0) rfl (by decide +kernel) (by decide +kernel) (by decide +kernel) rfl
     (pi_str (pv 0)) (fun C s H fp pn=>cG (i:=0) ndSign rfl (Or.inl rfl) (.inr rfl)) (fun C s H fp pn=>gN) (fun C s H fp pn=>AeZ sS sS aZ (pv 0) aZ)) aB)))),?_⟩
  have sl:sizeLine=16777216:=sizeLine_eq
  refine⟨_,rfl,_,_,_,true,rfl,.ty "str",.inl ⟨_,.str x,rfl⟩,_,rfl,?_⟩
  refine dH ?_
  refine⟨_,rfl,_,rfl,by omega,_,_,rfl,rfl,_,rfl,gY (decide_eq_true (by omega)) ⟨_,_,rfl,rfl,_,rfl,eX (by rw [decide_eq_true (by omega)];rfl) ?_⟩⟩
  refine⟨_,rfl,_,rfl,w3,fun acc hacc=>?_⟩
  refine⟨fun j m' ys H'=>m'=x.length-j/\j<=x.length/\ys=(List.replicate j true).map V.bl/\aR H H'/\H' acc=some (.lst ys),⟨_,rfl,Nat.zero_le _,rfl,aK hacc,aD⟩,?_⟩
  rintro j m' ys H' ⟨rfl,hj,rfl,sm,hA⟩
  refine⟨hA,?_⟩
  by_cases hlt:j<x.length
  ·refine .inr ⟨hlt,?_⟩
   rintro y H'' ⟨rfl,c,hc,rfl⟩
   obtain⟨z1,z2⟩:=w4 j c hc
   refine eQ ?_
   refine gM ?_
   refine eP ?_
   refine⟨_,rfl,_,_,rfl,rfl,_,rfl,gY z1 ⟨_,_,rfl,rfl,hA,by rw [List.length_map,List.length_replicate];omega,_,?_,rfl,hlt,?_,fun b o z=>?_,aD⟩⟩
   ·omega
   ·rw [List.replicate_succ',List.map_append,z2]
    rfl
   ·rw [aG (aF z hacc)]
    exact sm _ _ z
  ·refine .inl ⟨by show _<=j;omega,?_⟩
   refine⟨acc,_,rfl,SqL.of hA,?_⟩
   have ea:(List.replicate j true).all id=true:=by simp
   rw [ea]
   exact t _ sm
theorem AeI:aP ["worker"] ["worker"] (aH iH):=⟨rfl,rfl,rfl,by decide +kernel,rfl,by decide +kernel,by decide +kernel⟩
theorem wN {f fW:Addr} {fd fdW:FuncData} (F:Fun K "check_worker" "check_worker" iH f fd) (GW:aJ P w K mg base CX0 1 fW fdW ["thing"] kH) (kW:keepIn K (.ref fW)=true) (bW:aO K fdW ["thing"] []) (mW:mg "is_worker"=some (.ref fW)):aJ P w K mg base CX0 2 f fd ["worker"] iF:=by
 refine F.ok AeI (fun vs H Q E h=>?_) (fun cdv A outer s H vs Q E hr h=>?_)
 ·obtain⟨x,rfl,_⟩:=h
  rfl
 ·obtain⟨x,rfl,wx,t⟩:=h
  refine⟨_,aI (cJ (dA (cW (aL GW hr rfl mW kW bW .nil aN (aA (pv 0) aB)))) cD bV),?_⟩
  exact⟨_,rfl,x,rfl,wx,fun H' sm=>⟨_,rfl,dH (t H' sm)⟩⟩
def tK (CB CP:Addr):Sp:=fun vs H Q _=>∃(b pw sh d:Addr) (sp ev le nn nt mo:Int) (ps:List Addr) (cs:List Pc) (i:Nat) (p:Addr) (c:Pc),vs=[.ref b,.int c.n]/\eR CB CP H b pw sh d sp ev le nn nt mo ps cs/\ps[i]?=some p/\cs[i]?=some c/\(cs.map Pc.n).Nodup/\Q (.ref p) H
theorem AbL:∀{ps:List Addr} {cs:List Pc} {i:Nat} {p:Addr} {c:Pc},ps[i]?=some p->cs[i]?=some c->(cs.map Pc.n).Nodup->dY (dkv ps cs) (Sum.inl c.n:Key)=some (.ref p)
 | [],_,_,_,_,h,_,_=>by simp at h
 | _::_,[],_,_,_,_,h,_=>by simp at h
 | p::ps,c::cs,0,_,_,h1,h2,_=>by
  cases h1
  cases h2
  exact eZ rfl
 | q::ps,e::cs,i+1,p,c,h1,h2,nd=>by
  obtain⟨n1,n2⟩:=List.nodup_cons.mp nd
  have hm:c.n ∈ cs.map Pc.n:=List.mem_map_of_mem (List.mem_of_getElem? (by simpa using h2))
  show dY ((Sum.inl e.n,V.ref q)::dkv ps cs) _=_
  rw [fJ (fun z=>n1 (by have z:e.n=c.n:=Sum.inl.inj z;rw [z];exact hm))]
  exact AbL (by simpa using h1) (by simpa using h2) n2
theorem scWith:aP ["self","number"] ["self","number"] (aH uL):=⟨rfl,rfl,rfl,by decide +kernel,rfl,by decide +kernel,by decide +kernel⟩
theorem ok_with {f CB CP fW:Addr} {fd fdW:FuncData} (F:Fun K "piece_with" "Book.piece_with" uL f fd) (TB:Bl K mg CB) (GW:aJ P w K mg base CX0 1 fW fdW ["thing"] dS) (kW:keepIn K (.ref fW)=true) (bW:aO K fdW ["thing"] []) (mW:mg "is_whole"=some (.ref fW)):aJ P w K mg base CX0 2 f fd ["self","number"] (tK CB CP):=by
 refine F.ok scWith (fun vs H Q E h=>?_) (fun cdv A outer s H vs Q E hr h=>?_)
 ·obtain⟨b,pw,sh,d,sp,ev,le,nn,nt,mo,ps,cs,i,p,c,rfl,_⟩:=h
  rfl
 ·obtain⟨b,pw,sh,d,sp,ev,le,nn,nt,mo,ps,cs,i,p,c,rfl,hb,hp,hc,nd,t⟩:=h
  have hu:(A.deeper (PyProof.Rows.envOfC "Book.piece_with" (aH uL) s.heap.objs.size f cdv)).units+1<cLine:=by have:=hr.un;omega
  obtain⟨⟨dx,hbo⟩,hdc,hpc⟩:=id hb
  refine⟨_,aC (cJ (PW.pt (gH (dA (cW (aL GW hr rfl mW kW bW .nil aN (aA (pv 1) aB)))) (eT (AeR (AcJ hu (pv 1) (aV (pv 0) rfl)))))) cD bV) (aI (aY (AaW hu (aV (pv 0) rfl) (pv 1) (fun _ _=>rfl)))),?_⟩
  have dg:=jX.k (k:=(Sum.inl c.n:Key)) hdc
  rw [AbL hp hc nd] at dg
  refine⟨_,rfl,_,rfl,.kn (.int _),_,rfl,dH ?_⟩
  refine⟨_,rfl,_,rfl,b,CB,dx,_,_,rfl,hbo,TB.cl,TB.nB,rfl,d,_,rfl,dg,_,rfl,dH ?_⟩
  exact⟨_,rfl,b,CB,dx,_,_,rfl,hbo,TB.cl,TB.nB,rfl,_,rfl,d,_,rfl,dg,t⟩
theorem AhP {pw sh d:Addr} {sp ev le nn nt mo nt':Int}:dD "next_token" (.int nt') (bf pw sh d sp ev le nn nt mo)=bf pw sh d sp ev le nn nt' mo:=rfl
theorem tG {pw sh d:Addr} {sp ev le nn nt mo mo':Int}:dD "moment" (.int mo') (bf pw sh d sp ev le nn nt mo)=bf pw sh d sp ev le nn nt mo':=rfl
theorem pc_one {C:Addr} {H:Hp} {p:Addr} {c e:Pc} (h1:fV C H p c) (h2:fV C H p e):c.n=e.n:=by
 obtain⟨lv,⟨dx,a⟩,_⟩:=h1
 obtain⟨lv',⟨dx',b⟩,_⟩:=h2
 rw [a] at b
 have:=Option.some.inj b
 injection this with _ _ z
 injection z with z _
 injection z with _ z
 injection z
theorem kU {C:Addr} {H H':Hp} {ps:List Addr} {cs:List Pc} {k:Nat} {p:Addr} {c c':Pc} (h:Paired (fV C H) ps cs) (nd:(cs.map Pc.n).Nodup) (hk:ps[k]?=some p) (hc:cs[k]?=some c) (mv:∀q e,q≠p->fV C H q e->fV C H' q e) (new:fV C H' p c'):Paired (fV C H') ps (cs.set k c'):=by
 refine jY (by rw [List.length_set];exact h.length) fun j q e hq he=>?_
 rw [List.getElem?_set] at he
 by_cases z:k=j
 ·subst z
  rw [if_pos rfl] at he
  rw [hk] at hq
  cases hq
  split at he
  ·cases he
   exact new
  ·cases he
 ·rw [if_neg z] at he
  obtain⟨e',he',x⟩:=cA h hq
  rw [he] at he'
  cases he'
  refine mv q e (fun y=>z ?_) x
  subst y
  obtain⟨c'',hc'',x'⟩:=cA h hk
  rw [hc] at hc''
  cases hc''
  have en:=pc_one x' x
  have h1:(cs.map Pc.n)[k]?=some c.n:=by rw [List.getElem?_map,hc];rfl
  have h2:(cs.map Pc.n)[j]?=some c.n:=by rw [List.getElem?_map,he,en];rfl
  obtain⟨l1,g1⟩:=List.getElem?_eq_some_iff.mp h1
  obtain⟨l2,g2⟩:=List.getElem?_eq_some_iff.mp h2
  exact(List.getElem_inj nd).mp (g1.trans g2.symm)
theorem vA {ps:List Addr} {cs:List Pc} {k:Nat} {c c':Pc} (hc:cs[k]?=some c) (en:c'.n=c.n):dkv ps (cs.set k c')=dkv ps cs:=by
 unfold dkv
 refine List.ext_getElem? fun j=>?_
 rw [List.getElem?_map,List.getElem?_map]
 by_cases z:k=j
 ·subst z
  have hl:=(List.getElem?_eq_some_iff.mp hc).1
  cases hp:ps[k]? with
  | none=>
   have e1:((cs.set k c').zip ps)[k]?=none:=List.getElem?_eq_none (by rw [List.length_zip];have:=List.getElem?_eq_none_iff.mp hp;omega)
   have e2:(cs.zip ps)[k]?=none:=List.getElem?_eq_none (by rw [List.length_zip];have:=List.getElem?_eq_none_iff.mp hp;omega)
   rw [e1,e2]
  | some p=>
   have e1:((cs.set k c').zip ps)[k]?=some (c',p):=List.getElem?_zip_eq_some.mpr ⟨by rw [List.getElem?_set,if_pos rfl,if_pos hl],hp⟩
   have e2:(cs.zip ps)[k]?=some (c,p):=List.getElem?_zip_eq_some.mpr ⟨hc,hp⟩
   rw [e1,e2]
   show some ((Sum.inl c'.n:Key),V.ref p)=some (Sum.inl c.n,V.ref p)
   rw [en]
 ·have e:((cs.set k c').zip ps)[j]?=(cs.zip ps)[j]?:=by
   have h1:(cs.set k c')[j]?=cs[j]?:=by rw [List.getElem?_set,if_neg z]
   cases q:(cs.zip ps)[j]? with
   | none=>
    have:=List.getElem?_eq_none_iff.mp q
    exact List.getElem?_eq_none (by rw [List.length_zip,List.length_set] at *;exact this)
   | some x=>
    obtain⟨a,b⟩:=List.getElem?_zip_eq_some.mp q
    exact List.getElem?_zip_eq_some.mpr ⟨h1.trans a,b⟩
  rw [e]
theorem pY:aP ["self","worker","moment","chosen","piece","token","until"] ["self","worker","moment"] (aH yT):=⟨rfl,rfl,rfl,by decide +kernel,rfl,by decide +kernel,by decide +kernel⟩
end
end Ls
namespace L2
open PySem PySem.Spec PyProof.Rows PySem.W
section
variable {X:Cx}
def sThawR (H0:Hp) (t:TS):TS:=fun D σ H=>t { D with nx:=fun σ1 H1=>∃a o kvs,H1 a=some (.frz o (.dK kvs))/\(∀o v,H0 a≠some (.frz o v))/\D.nx σ1 (upd H1 a (.dK kvs)),rt:=fun v H1=>∃a o kvs,H1 a=some (.frz o (.dK kvs))/\(∀o v,H0 a≠some (.frz o v))/\D.rt v (upd H1 a (.dK kvs)) } σ H
theorem AeS {st:Stmt} {t:TS} (h:PS X st t):PS X st (sThawR X.H₀ t):=fun pins s σ H D I q=>thn (h s σ H _ I q) fun f s1 z=>by
 cases f with
 | next=>
  obtain⟨σ1,H1,I1,a,o,kvs,z1,z2,z3⟩:=z
  exact⟨σ1,_,I1.thaw z1 z2,z3⟩
 | ret u=>
  obtain⟨v,σ1,H1,I1,r,a,o,kvs,z1,z2,z3⟩:=z
  exact⟨v,σ1,_,I1.thaw z1 z2,r,z3⟩
 | brk=>exact z
 | cont=>exact z
end
end L2
namespace Ls
open PySem L2 PySem.W
def Pc.has (c:Pc) (tk:Int):Bool:=c.o.any fun t=>decide (t.1=tk)
def xZ (CB CP:Addr):Sp:=fun vs H Q _=>∃(b pw sh d:Addr) (sp ev le nn nt mo tk i:Int) (ps:List Addr) (cs:List Pc) (k:Nat) (p:Addr) (c:Pc),vs=[.ref b,.int tk,.int i]/\eR CB CP H b pw sh d sp ev le nn nt mo ps cs/\mo<=i/\0<=tk/\tk<nt/\ps[k]?=some p/\cs[k]?=some c/\c.has tk=true /\
 (∀j e,cs[j]?=some e->j<k->e.has tk=false)/\∀H',aR H H'->Q (.ref p) H'
section
variable {P:Program} {w:World} {K:PySem.W.Frag} {mg:Str->Option Value} {base:Heap}
theorem AeH:aP ["self","token","moment","piece"] ["self","token","moment"] (aH yV):=⟨rfl,rfl,rfl,by decide +kernel,rfl,by decide +kernel,by decide +kernel⟩
theorem ok_held {f CB CP fM fW fH:Addr} {fd fdM fdW fdH:FuncData} (F:Fun K "held_piece" "Book.held_piece" yV f fd) (TB:Bl K mg CB) (TP:Pl K mg CP)
  (GM:aJ P w K mg base CX0 2 fM fdM ["self","moment"] (oP CB)) (bM:aO K fdM ["self","moment"] []) (mM:dE K CB "check_moment" fM)
  (GW:aJ P w K mg base CX0 2 fW fdW ["thing"] dS) (kW:keepIn K (.ref fW)=true) (bW:aO K fdW ["thing"] []) (mW:mg "is_whole"=some (.ref fW))
  (GH:aJ P w K mg base CX0 2 fH fdH ["self","token"] (yA CP)) (bH:aO K fdH ["self","token"] []) (mH:dE K CP "has_token" fH):
  aJ P w K mg base CX0 3 f fd ["self","token","moment"] (xZ CB CP):=by
 refine F.ok AeH (fun vs H Q E h=>?_) (fun cdv A outer s H vs Q E hr h=>?_)
 ·obtain⟨b,pw,sh,d,sp,ev,le,nn,nt,mo,tk,i,ps,cs,k,p,c,rfl,_⟩:=h
  rfl
 ·obtain⟨b,pw,sh,d,sp,ev,le,nn,nt,mo,tk,i₀,ps,cs,k,p,c,rfl,hb,hi,t0,t1,hp,hc,ht,bf',t⟩:=h
  refine⟨_,aC (cT (cU (pv 0) TB.cl mM GM hr bM .nil aN (aA (pv 2) aB)))
   (aC (cJ (PW.pt (gH (dA (cW (aL GW hr rfl mW kW bW .nil aN (aA (pv 1) aB)))) (eT (dA (lQ lT fX aE (pv 1) (aV (pv 0) rfl)))))) cD bV)
   (aC (AeS (eU PassesOwn.never rfl (uP (oY (aV (pv 0) rfl))) (cG (i:=3) AeH.nd rfl (Or.inl rfl))
    (aI (cJ (cW (cU (pv 3) TP.cl mH GH hr bH .nil aN (aA (pv 1) aB))) (aI (aY (pv 3))) bV)))) cD)),?_⟩
  have sl:sizeLine=16777216:=sizeLine_eq
  obtain⟨⟨dx,hbo⟩,hdc,hpc⟩:=id hb
  have nf:∀(o:Obj) (v:HO),H d≠some (.frz o v):=fun o v z=>by rw [hdc] at z;cases z
  refine⟨_,rfl,b,dx,_,rfl,hbo,rfl,_,rfl,b,pw,sh,d,sp,ev,le,nn,nt,mo,i₀,rfl,⟨dx,hbo⟩,hi,?_⟩
  refine⟨_,rfl,_,rfl,.kn (.int _),_,rfl,dH ?_⟩
  refine⟨_,rfl,_,_,rfl,rfl,_,rfl,gY (decide_eq_true (by omega)) ⟨_,rfl,b,CB,dx,_,_,rfl,hbo,TB.cl,TB.nT,rfl,_,_,rfl,rfl,_,rfl,eX (by rw [decide_eq_true (by omega)];rfl) ?_⟩⟩
  refine⟨_,rfl,b,CB,dx,_,_,rfl,hbo,TB.cl,TB.nB,rfl,.inr (.inr (.inl ⟨rfl,.inl ⟨_,hdc⟩⟩)),d,_,rfl,rfl,hdc,fun v nv=>?_⟩
  have s1:aR H (upd H v (eK v d)):=aK nv
  have e1:(upd H v (eK v d)) v=some (eK v d):=aD
  generalize upd H v (eK v d)=H1 at s1 e1 ⊢
  have hd1:=s1 _ _ hdc
  have hp1:=dF (aR.toT s1) hpc
  refine⟨v,d,dkv ps cs,rfl,e1,hd1,fun o=>?_⟩
  have fz:(upd H1 d (.frz o (.dK (dkv ps cs)))) d=some (.frz o (.dK (dkv ps cs))):=aD
  have kp:∀a u,H1 a=some u->a≠d->(upd H1 d (.frz o (.dK (dkv ps cs)))) a=some u:=fun a u e n=>by rw [aG n];exact e
  have bk:aR H (upd (upd H1 d (.frz o (.dK (dkv ps cs)))) d (.dK (dkv ps cs))):=s1.trans (sG hd1 (aR.refl _))
  generalize upd H1 d (.frz o (.dK (dkv ps cs)))=H2 at fz kp bk ⊢
  refine AgR (a:=d) (o:=o) (kvs:=dkv ps cs) (fun i σ G=>i<=k/\G=H2/\∃u,σ=[some (.ref b),some (.int tk),some (.int i₀),u]) ⟨Nat.zero_le _,rfl,_,rfl⟩ (fun i σ G _ h=>by rw [h.2.1];exact fz) ?_ ?_
  ·rintro i e σ G he ⟨hi',rfl,u,rfl⟩
   obtain⟨c',p',h1,h2,rfl⟩:=vB he
   obtain⟨c'',h1',lv,⟨dp,hat⟩,hld⟩:=cA hp1 h2
   rw [h1] at h1'
   cases h1'
   have hat2:=kp _ _ hat (aX hat hd1 (by intro z;cases z))
   have hld2:jW G lv c'.o:=hld.move fun q ys h=>kp _ _ h (aX h hd1 (by intro z;cases z))
   refine eQ ?_
   refine⟨_,rfl,p',dp,_,rfl,hat2,rfl,_,rfl,p',_,_,_,_,tk,lv,c'.o,rfl,⟨dp,hat2⟩,hld2,_,rfl,?_⟩
   by_cases z:i=k
   ·subst z
    rw [hc] at h1
    cases h1
    rw [hp] at h2
    cases h2
    exact gY ht ⟨_,rfl,d,o,_,fz,nf,t _ bk⟩
   ·exact eX (bf' i c' h1 (by omega)) ⟨by omega,rfl,_,rfl⟩
  ·rintro σ G ⟨hi',_⟩
   have:=(List.getElem?_eq_some_iff.mp hc).1
   rw [jT hpc] at hi'
   omega
def pL (CB CS CP:Addr):Sp:=fun vs H Q _=>∃(b pw sh d pw' d' nr:Addr) (sp ev le nn nt mo tk i pl:Int) (ps:List Addr) (cs:List Pc) (k:Nat) (p:Addr) (c:Pc) (ws:Lm.Ps) (kvs:List (Key × V)) (ns:List Int),vs=[.ref b,.int tk,.int pl,.ref nr,.int i]/\eR CB CP H b pw sh d sp ev le nn nt mo ps cs/\cO CS H sh pw' d' ws kvs /\
 mo<=i/\0<=tk/\tk<nt/\ps[k]?=some p/\cs[k]?=some c/\c.has tk=true/\(∀j e,cs[j]?=some e->j<k->e.has tk=false)/\H nr=some (.tup (ns.map V.int))/\ns.length<=1000/\c.l<=pl/\pl<=c.m/\pl+ns.length<=c.m+ev/\-(2 ^ 61)<=pl/\pl<=2 ^ 61 /\
 (∀(j:Nat) n,ns[j]?=some n->pl+(j:Int)<c.m->dY kvs (Sum.inl (pl+(j:Int)):Key)=some (.int n))/\∀H',aR H H'->Q (.ref p) H'
theorem lK:aP ["self","token","place","numbers","moment","piece","at","number"] ["self","token","place","numbers","moment"] (aH qD):=⟨rfl,rfl,rfl,by decide +kernel,rfl,by decide +kernel,by decide +kernel⟩
theorem AcL {f CB CS CP fH fW fN fR:Addr} {fd fdH fdW fdN fdR:FuncData} (F:Fun K "piece_to_tell" "Book.piece_to_tell" qD f fd) (G:Gb mg) (TB:Bl K mg CB) (TS:Cl K mg CS) (TP:Pl K mg CP)
  (GH:aJ P w K mg base CX0 3 fH fdH ["self","token","moment"] (xZ CB CP)) (bH:aO K fdH ["self","token","moment"] []) (mH:dE K CB "held_piece" fH)
  (GW:aJ P w K mg base CX0 3 fW fdW ["thing"] dS) (kW:keepIn K (.ref fW)=true) (bW:aO K fdW ["thing"] []) (mW:mg "is_whole"=some (.ref fW))
  (GN:aJ P w K mg base CX0 3 fN fdN ["thing"] tQ) (kN:keepIn K (.ref fN)=true) (bN:aO K fdN ["thing"] []) (mN:mg "is_numbers"=some (.ref fN))
  (GR:aJ P w K mg base CX0 3 fR fdR ["self","place"] (spRes CS)) (bR:aO K fdR ["self","place"] []) (mR:dE K CS "result_at" fR):
  aJ P w K mg base CX0 4 f fd ["self","token","place","numbers","moment"] (pL CB CS CP):=by
 refine F.ok lK (fun vs H Q E h=>?_) (fun cdv A outer s H vs Q E hr h=>?_)
 ·obtain⟨b,pw,sh,d,pw',d',nr,sp,ev,le,nn,nt,mo,tk,i,pl,ps,cs,k,p,c,ws,kvs,ns,rfl,_⟩:=h
  rfl
 ·obtain⟨b,pw,sh,d,pw',d',nr,sp,ev,le,nn,nt,mo,tk,i,pl,ps,cs,k,p,c,ws,kvs,ns,rfl,hb,hs,hi,t0,t1,hp,hc,ht,bf',hn,ln,p1,p2,p3,p4,p5,ok,t⟩:=h
  refine⟨_,aC (aU (i:=5) lK.nd rfl (Or.inl rfl) (cU (pv 0) TB.cl mH GH hr bH .nil aN (aA (pv 1) (aA (pv 4) aB))))
   (aC (cJ (PW.pt (gH (dA (cW (aL GW hr rfl mW kW bW .nil aN (aA (pv 2) aB)))) (eT (dA (lQ lT lT (aV (pv 5) rfl) (pv 2) (aV (pv 5) rfl)))))) cD bV)
   (aC (cJ (dA (cW (aL GN hr rfl mN kN bN .nil aN (aA (pv 3) aB)))) cD bV)
   (aC (cJ (cB AaZ (bU dG (pv 2) (aS cR (by rfl) G.len PySem.boot_len (aA (pv 3) aB))) (bU dG (aV (pv 5) rfl) (aV (pv 0) rfl)) (bX _)) cD bV)
   (aC (eU PassesOwn.never rfl (AaU (by rfl) G.enum sX (aA (pv 3) aB) (oW (pv 2) uO)) (jD (n:=2) rfl (cX (cG (i:=6) lK.nd rfl (Or.inl rfl)) (cX (cG (i:=7) lK.nd rfl (Or.inl rfl)) gB)))
    (aI (cJ (PW.pt (kR (cB fX (pv 6) (aV (pv 5) rfl) (bX _)) (iI (cB AaY (pv 7) (cU (aV (pv 0) rfl) TS.cl mR GR hr bR .nil aN (aA (pv 6) aB)) (bX _))))) cD bV)))
   (aI (aY (pv 5))))))),?_⟩
  have sl:sizeLine=16777216:=sizeLine_eq
  obtain⟨⟨dx,hbo⟩,hdc,hpc⟩:=id hb
  obtain⟨c',hc',lv,⟨dp,hat⟩,hld⟩:=cA hpc hp
  rw [hc] at hc'
  cases hc'
  refine⟨_,rfl,b,dx,_,rfl,hbo,rfl,_,rfl,_,rfl,b,pw,sh,d,sp,ev,le,nn,nt,mo,tk,i,ps,cs,k,p,c,rfl,hb,hi,t0,t1,hp,hc,ht,bf',fun H1 s1=>?_⟩
  have hat1:=s1 _ _ hat
  refine⟨_,rfl,_,rfl,.kn (.int _),_,rfl,dH ?_⟩
  refine⟨_,rfl,p,CP,dp,_,_,rfl,hat1,TP.cl,TP.nL,rfl,_,rfl,_,_,rfl,rfl,_,rfl,gY (decide_eq_true p1) ⟨_,rfl,p,CP,dp,_,_,rfl,hat1,TP.cl,TP.nM,rfl,_,_,rfl,rfl,_,rfl,eX (by rw [decide_eq_true p2];rfl) ?_⟩⟩
  refine⟨_,rfl,nr,ns,rfl,s1 _ _ hn,ln,fun H2 s2=>⟨_,rfl,dH ?_⟩⟩
  have t2:=s1.trans s2
  have hat2:=t2 _ _ hat
  have hbo2:=t2 _ _ hbo
  refine⟨_,rfl,_,rfl,nr,_,rfl,.inr (SqT.of (t2 _ _ hn)),_,_,rfl,rfl,_,rfl,p,CP,dp,_,_,rfl,hat2,TP.cl,TP.nM,rfl,_,rfl,b,CB,dx,_,_,rfl,hbo2,TB.cl,TB.nE,rfl,_,_,rfl,rfl,_,_,rfl,rfl,_,rfl,?_⟩
  refine eF (fun hc=>absurd hc (by simp;omega)) fun _=>?_
  refine⟨_,rfl,_,rfl,nr,pl,rfl,rfl,AbK p4 p5,⟨_,SqT.of (t2 _ _ hn)⟩,wW (K:=K) (a:=nr) (d:=pl) (xs:=ns.map V.int) (fun j σ G=>aR H2 G/\∃u v,σ=[some (.ref b),some (.int tk),some (.int pl),some (.ref nr),some (.int i),some (.ref p),u,v]) ⟨aR.refl _,_,_,rfl⟩ (fun j σ G _ h=>SqT.of (h.1 _ _ (t2 _ _ hn))) ?_ ?_⟩
  ·rintro j y σ G q hj ⟨sg,u,v,rfl⟩ nq
   have s3:aR G (upd G q (.tup [.int (pl+(j:Int)),y])):=aK nq
   have e3:(upd G q (.tup [.int (pl+(j:Int)),y])) q=some (.tup [.int (pl+(j:Int)),y]):=aD
   generalize upd G q (.tup [.int (pl+(j:Int)),y])=G3 at s3 e3 ⊢
   have t3:=t2.trans (sg.trans s3)
   obtain⟨n,hn',rfl⟩:∃n,ns[j]?=some n/\y=.int n:=by
    rw [List.getElem?_map] at hj
    cases z:ns[j]? with
    | none=>rw [z] at hj;cases hj
    | some n=>rw [z] at hj;exact⟨n,rfl,(Option.some.inj hj).symm⟩
   refine⟨q,_,rfl,SqT.of e3,rfl,_,_,rfl,_,_,rfl,rfl,?_⟩
   refine⟨_,rfl,_,rfl,p,CP,dp,_,_,rfl,t3 _ _ hat,TP.cl,TP.nM,rfl,_,_,rfl,rfl,_,rfl,?_⟩
   refine eF (fun hc=>?_) fun _=>dH ⟨sg.trans s3,_,_,rfl⟩
   have hlt:pl+(j:Int)<c.m:=by simpa using hc
   have S3:=hs.same t3
   obtain⟨dz,hz⟩:=S3.ob
   refine⟨_,rfl,_,rfl,b,CB,dx,_,_,rfl,t3 _ _ hbo,TB.cl,TB.nH,rfl,sh,dz,_,rfl,hz,gQ _ _ (by decide +kernel) (by decide +kernel),_,rfl,sh,pw',d',ws,kvs,.int (pl+(j:Int)),rfl,S3,.kn (.int _),(fun z=>nomatch z),fun i' e=>?_⟩
   cases e
   rw [ok j n hn' hlt]
   exact⟨rfl,_,rfl,iteNS rfl ⟨sg.trans s3,_,_,rfl⟩⟩
  ·rintro σ G ⟨sg,u,v,rfl⟩
   exact⟨_,rfl,t _ (t2.trans sg)⟩
theorem AaX {P:Program} {w:World} {X:Cx}:iQ (CXE P w) X E0:=fun _ _ _ _ _ _ _ h=>by
 obtain⟨_,_,_,_,_,_,_,_,_,z⟩:=h
 exact z.elim
def iT (ns:List Int) (lo hi:Option Int):List Int:=(ns.drop (HT.sIx ns.length 0 lo)).take (HT.sIx ns.length ns.length hi-HT.sIx ns.length 0 lo)
theorem cut_fr (ns:List Int) (lo hi:Option Int):nV (ns.map V.int) lo hi=(iT ns lo hi).map V.int:=by
 unfold nV iT
 rw [List.length_map,List.map_take,List.map_drop]
theorem fr_len (ns:List Int) (lo hi:Option Int):(iT ns lo hi).length<=ns.length:=by
 unfold iT
 rw [List.length_take,List.length_drop]
 omega
def Pc.told (c:Pc) (n:Int) (u:Int):Pc:={ c with m:=c.m+n,o:=if c.m+n=c.h then none else c.o.map fun t=>(t.1,t.2.1,u) }
def pM (CB CS CP:Addr):Sp:=fun vs H Q _=>∃(b pw sh d pw' d' nr:Addr) (sp ev le nn nt mo tk i pl:Int) (ps:List Addr) (cs:List Pc) (k:Nat) (p:Addr) (c:Pc) (ws:Lm.Ps) (kvs:List (Key × V)) (ns:List Int),vs=[.ref b,.int tk,.int pl,.ref nr,.int i]/\eR CB CP H b pw sh d sp ev le nn nt mo ps cs/\cO CS H sh pw' d' ws kvs /\
 mo<=i/\0<=tk/\tk<nt/\ps[k]?=some p/\cs[k]?=some c/\c.has tk=true/\(∀j e,cs[j]?=some e->j<k->e.has tk=false)/\H nr=some (.tup (ns.map V.int))/\ns.length<=1000/\c.l<=pl/\pl<=c.m/\pl+ns.length<=c.m+ev/\-(2 ^ 61)<=pl/\pl<=2 ^ 61 /\
 (∀(j:Nat) n,ns[j]?=some n->pl+(j:Int)<c.m->dY kvs (Sum.inl (pl+(j:Int)):Key)=some (.int n))/\(cs.map Pc.n).Nodup/\d≠d'/\ws.length<=1000/\kvs.length<=1000 /\
 (-(2 ^ 61)<=c.m/\c.m+(iT ns (some (c.m-pl)) (some (c.h-pl))).length<=2 ^ 61/\(∃q ∈ ws,q.1<=c.m/\c.m+(iT ns (some (c.m-pl)) (some (c.h-pl))).length<=q.2)/\∀j:Nat,j<(iT ns (some (c.m-pl)) (some (c.h-pl))).length->dY kvs (Sum.inl (c.m+(j:Int)):Key)=none) /\
 ∀(r:Addr) (H':Hp),(∀a o,H a=some o->a≠b->a≠p->a≠d'->H' a=some o)->eR CB CP H' b pw sh d sp ev le nn nt i ps (cs.set k (c.told (iT ns (some (c.m-pl)) (some (c.h-pl))).length (i+sp))) ->
  cO CS H' sh pw' d' ws (kvs++nU c.m (iT ns (some (c.m-pl)) (some (c.h-pl))) (iT ns (some (c.m-pl)) (some (c.h-pl))).length) ->
  H' r=some (.tup [.int (c.m+(iT ns (some (c.m-pl)) (some (c.h-pl))).length),.int c.h,if c.m+(iT ns (some (c.m-pl)) (some (c.h-pl))).length=c.h then .non else .int (i+sp)])->Q (.ref r) H'
theorem uB:aP ["self","token","place","numbers","moment","piece","fresh","until"] ["self","token","place","numbers","moment"] (aH yS):=⟨rfl,rfl,rfl,by decide +kernel,rfl,by decide +kernel,by decide +kernel⟩
theorem ok_tell {f CB CS CP CT fT fL fD:Addr} {fd fdT fdL fdD:FuncData} (F:Fun K "tell" "Book.tell" yS f fd) (G:Gb mg) (TB:Bl K mg CB) (TS:Cl K mg CS) (TP:Pl K mg CP)
  (GT:aJ P w K mg base CX0 4 fT fdT ["self","token","place","numbers","moment"] (pL CB CS CP)) (bT:aO K fdT ["self","token","place","numbers","moment"] []) (mT:dE K CB "piece_to_tell" fT)
  (GL:aJ P w K mg base (CXE P w) 4 fL fdL ["self","place","numbers"] (spLay CS CT)) (bL:aO K fdL ["self","place","numbers"] []) (mL:dE K CS "lay" fL)
  (GD:aJ P w K mg base CX0 4 fD fdD ["self"] (tZ CP)) (bD:aO K fdD ["self"] []) (mD:dE K CP "is_done" fD):
  aJ P w K mg base CX0 5 f fd ["self","token","place","numbers","moment"] (pM CB CS CP):=by
 refine F.ok uB (fun vs H Q E h=>?_) (fun cdv A outer s H vs Q E hr h=>?_)
 ·obtain⟨b,pw,sh,d,pw',d',nr,sp,ev,le,nn,nt,mo,tk,i,pl,ps,cs,k,p,c,ws,kvs,ns,rfl,_⟩:=h
  rfl
 ·obtain⟨b,pw,sh,d,pw',d',nr,sp,ev,le,nn,nt,mo,tk,i,pl,ps,cs,k,p,c,ws,kvs,ns,rfl,hb,hs,hi,t0,t1,hp,hc,ht,bf',hn,ln,p1,p2,p3,p4,p5,ok,nd,ndd,lw,lk,⟨m1,m2,m3,m4⟩,t⟩:=h
  refine⟨_,aC (aU (i:=5) uB.nd rfl (Or.inl rfl) (cU (pv 0) TB.cl mT GT hr bT .nil aN (aA (pv 1) (aA (pv 2) (aA (pv 3) (aA (pv 4) aB))))))
   (aC (aU (i:=6) uB.nd rfl (Or.inl rfl) (eG gR (pv 3) (eM (bU kX (aV (pv 5) rfl) (pv 2))) (eM (bU kX (aV (pv 5) rfl) (pv 2)))))
   (aC (cT (cU (aV (pv 0) rfl) TS.cl mL GL hr bL .nil AaX (aA (aV (pv 5) rfl) (aA (pv 6) aB))))
   (aC (sP (pv 5) (aS cR (by rfl) G.len PySem.boot_len (aA (pv 6) aB)) AgM)
   (aC (dJ (pv 0) (pv 4) rfl)
   (aC (cJ (cW (cM (pv 5) TP.cl mD GD hr bD .nil aN)) (aC (dJ (pv 5) dX rfl) (aI (aY (cC (aA (aV (pv 5) rfl) (aA (aV (pv 5) rfl) (aA dX aB))))))) bV)
   (aC (aU (i:=7) uB.nd rfl (Or.inl rfl) (bU dG (pv 4) (aV (pv 0) rfl)))
   (aC (dJ (pv 5) (cC (aA (pv 1) (aA (bJ bQ (aV (pv 5) rfl) aE (fun _ _=>rfl)) (aA (pv 7) aB)))) rfl)
   (aI (aY (cC (aA (aV (pv 5) rfl) (aA (aV (pv 5) rfl) (aA (pv 7) aB))))))))))))),?_⟩
  have sl:sizeLine=16777216:=sizeLine_eq
  obtain⟨⟨dx,hbo⟩,hdc,hpc⟩:=id hb
  obtain⟨c',hc',lv,⟨dp,hat⟩,hld⟩:=cA hpc hp
  rw [hc] at hc'
  cases hc'
  refine⟨_,rfl,b,dx,_,rfl,hbo,rfl,_,rfl,_,rfl,_,rfl,_,rfl,b,pw,sh,d,pw',d',nr,sp,ev,le,nn,nt,mo,tk,i,pl,ps,cs,k,p,c,ws,kvs,ns,rfl,hb,hs,hi,t0,t1,hp,hc,ht,bf',hn,ln,p1,p2,p3,p4,p5,ok,fun H1 s1=>?_⟩
  have hat1:=s1 _ _ hat
  refine⟨_,rfl,_,rfl,p,CP,dp,_,_,rfl,hat1,TP.cl,TP.nM,rfl,_,rfl,_,_,rfl,rfl,_,rfl,_,rfl,p,CP,dp,_,_,rfl,hat1,TP.cl,TP.nH,rfl,_,rfl,_,_,rfl,rfl,_,rfl,nr,_,rfl,s1 _ _ hn,fun q H2 s2 e2=>?_⟩
  rw [cut_fr] at e2
  have lf:=fr_len ns (some (c.m-pl)) (some (c.h-pl))
  generalize iT ns (some (c.m-pl)) (some (c.h-pl))=fr at e2 lf m2 m3 m4 t
  have t2:=s1.trans s2
  have hs2:=hs.same t2
  obtain⟨dz,hz⟩:=hs2.ob
  refine⟨_,rfl,b,CB,dx,_,_,rfl,t2 _ _ hbo,TB.cl,TB.nH,rfl,sh,dz,_,rfl,hz,gQ _ _ (by decide +kernel) (by decide +kernel),_,rfl,p,CP,dp,_,_,rfl,t2 _ _ hat,TP.cl,TP.nM,rfl,_,rfl,sh,pw',d',q,ws,kvs,c.m,fr,rfl,hs2,e2,lw,by omega,lk,m1,m2,m3,fun _ H3 e3 k3=>?_,fun⟨j,hj,z⟩=>absurd (m4 j hj) z⟩
  have npd':p≠d':=aX hat hs.dc (by intro z;cases z)
  have nbd':b≠d':=aX hbo hs.dc (by intro z;cases z)
  have npb:p≠b:=aX hat hbo (by intro z;injection z with _ _ z;injection z with z;injection z with z;exact absurd z (by decide +kernel))
  have hat3:=k3 _ _ (t2 _ _ hat) npd'
  have hbo3:=k3 _ _ (t2 _ _ hbo) nbd'
  have eq3:H3 q=some (.tup (fr.map V.int)):=k3 _ _ e2 (aX e2 hs2.dc (by intro z;cases z))
  refine⟨_,rfl,p,CP,dp,_,_,rfl,hat3,TP.cl,TP.nM,rfl,_,rfl,q,_,rfl,.inr (SqT.of eq3),_,_,rfl,rfl,dp,_,hat3,(by show 5<1000;decide),?_⟩
  rw [pf_mark,List.length_map]
  refine⟨_,rfl,_,rfl,b,CB,dx,_,rfl,(by rw [aG npb.symm];exact hbo3),TB.cl,TB.nM,(by show 9<1000;decide),?_⟩
  rw [tG]
  generalize hM:c.m+(fr.length:Int)=M at *
  have k5:∀a o,H3 a=some o->a≠p->a≠b->(upd (upd H3 p (.ins CP dp (pf c.n c.l c.h M lv))) b (.ins CB dx (bf pw sh d sp ev le nn nt i))) a=some o:=fun a o e n1 n2=>by
   rw [aG n2,aG n1]
   exact e
  have p5:(upd (upd H3 p (.ins CP dp (pf c.n c.l c.h M lv))) b (.ins CB dx (bf pw sh d sp ev le nn nt i))) p=some (.ins CP dp (pf c.n c.l c.h M lv)):=by rw [aG npb,aD]
  have b5:(upd (upd H3 p (.ins CP dp (pf c.n c.l c.h M lv))) b (.ins CB dx (bf pw sh d sp ev le nn nt i))) b=some (.ins CB dx (bf pw sh d sp ev le nn nt i)):=aD
  generalize upd (upd H3 p (.ins CP dp (pf c.n c.l c.h M lv))) b (.ins CB dx (bf pw sh d sp ev le nn nt i))=H5 at k5 p5 b5 ⊢
  have f5:∀a o,H a=some o->a≠b->a≠p->a≠d'->H5 a=some o:=fun a o e n1 n2 n3=>k5 _ _ (k3 _ _ (t2 _ _ e) n3) n2 n1
  have tp5:∀a ys,H a=some (.tup ys)->H5 a=some (.tup ys):=fun a ys e=>f5 _ _ e (aX e hbo (by intro z;cases z)) (aX e hat (by intro z;cases z)) (aX e hs.dc (by intro z;cases z))
  have d5:H5 d'=some (.dK (kvs++nU c.m fr fr.length)):=k5 _ _ e3 npd'.symm nbd'.symm
  have fin:∀(r:Addr) (H':Hp) (lv':V),(∀a o,H5 a=some o->a≠p->H' a=some o)->H' p=some (.ins CP dp (pf c.n c.l c.h M lv'))->jW H' lv' (if M=c.h then none else c.o.map fun t=>(t.1,t.2.1,i+sp))->H' r=some (.tup [.int M,.int c.h,if M=c.h then .non else .int (i+sp)])->Q (.ref r) H':=fun r H' lv' fk hp' hl' hr'=>by
   refine t r H' (fun a o e n1 n2 n3=>fk _ _ (f5 a o e n1 n2 n3) n2) ⟨⟨dx,fk _ _ b5 npb.symm⟩,?_,?_⟩ ⟨?_,?_,?_⟩ hr'
   ·rw [vA (c':=c.told fr.length (i+sp)) hc rfl]
    exact fk _ _ (f5 _ _ hdc (aX hdc hbo (by intro z;cases z)) (aX hdc hat (by intro z;cases z)) ndd) (aX hdc hat (by intro z;cases z))
   ·refine kU hpc nd hp hc (fun q' e' nq' ⟨lv2,⟨dz2,ha'⟩,hl2⟩=>⟨lv2,⟨dz2,fk _ _ (f5 _ _ ha' ?_ nq' (aX ha' hs.dc (by intro z;cases z))) nq'⟩,hl2.move fun a ys e=>fk _ _ (tp5 a ys e) (aX e hat (by intro z;cases z))⟩) ?_
    ·exact aX ha' hbo (by intro z;injection z with _ _ z;injection z with z;injection z with z;exact absurd z (by decide +kernel))
    ·unfold Pc.told fV
     rw [hM]
     exact⟨lv',⟨dp,hp'⟩,hl'⟩
   ·obtain⟨dy,hy⟩:=hs.ob
    have n1:sh≠b:=aX hy hbo (by intro z;injection z with _ _ z;exact absurd (congrArg List.length z) (by show ¬ 2=9;decide))
    have n2:sh≠p:=aX hy hat (by intro z;injection z with _ _ z;exact absurd (congrArg List.length z) (by show ¬ 2=5;decide))
    exact⟨dy,fk _ _ (f5 _ _ hy n1 n2 (aX hy hs.dc (by intro z;cases z))) n2⟩
   ·obtain⟨xs,x1,x2⟩:=hs.wk
    exact⟨xs,fk _ _ (tp5 _ _ x1) (aX x1 hat (by intro z;cases z)),bY (fun v r ⟨b',z1,z2⟩=>⟨b',z1,fk _ _ (tp5 _ _ z2) (aX z2 hat (by intro z;cases z))⟩) x2⟩
   ·exact fk _ _ d5 npd'.symm
  refine⟨_,rfl,p,dp,_,rfl,p5,rfl,p,_,_,_,_,lv,rfl,⟨dp,p5⟩,_,rfl,?_⟩
  refine eF (fun hd=>?_) (fun hd=>?_)
  ·have hd:M=c.h:=by simpa using hd
   refine⟨_,rfl,p,CP,dp,_,rfl,p5,TP.cl,TP.nD,(by show 5<1000;decide),?_⟩
   rw [uQ]
   refine⟨_,rfl,p,CP,dp,_,_,rfl,aD,TP.cl,TP.nM,rfl,_,rfl,p,CP,dp,_,_,rfl,aD,TP.cl,TP.nH,rfl,by show 3<=sizeLine;decide,fun r nr=>?_⟩
   refine fin r _ .non (fun a o e n=>aK nr _ _ (by rw [aG n];exact e)) (aK nr _ _ aD) ?_ ?_
   ·rw [if_pos hd]
    trivial
   ·rw [if_pos hd]
    exact aD
  ·have hd:¬ M=c.h:=by simpa using hd
   obtain⟨z,hz'⟩:∃z,c.o=some z:=by
    cases q':c.o with
    | none=>unfold Pc.has at ht;rw [q'] at ht;cases ht
    | some z=>exact⟨z,rfl⟩
   have ht':z.1=tk:=by
    unfold Pc.has at ht
    rw [hz'] at ht
    simpa using ht
   rw [hz'] at hld
   obtain⟨lq,rfl⟩:∃lq,lv=.ref lq:=by
    cases lv with
    | ref lq=>exact⟨lq,rfl⟩
    | _=>exact hld.elim
   have hlq:H lq=some (.tup [.int z.1,.str z.2.1,.int z.2.2]):=hld
   refine⟨_,rfl,_,rfl,b,CB,dx,_,_,rfl,b5,TB.cl,TB.nS,rfl,_,_,rfl,rfl,?_⟩
   refine⟨_,rfl,_,rfl,p,CP,dp,_,_,rfl,p5,TP.cl,TP.nD,rfl,lq,_,_,_,rfl,rfl,SqT.of (tp5 _ _ hlq),aM (j:=1) rfl,_,rfl,by show 3<=sizeLine;decide,fun q2 nq2=>?_⟩
   have s6:aR H5 (upd H5 q2 (.tup [.int tk,.str z.2.1,.int (i+sp)])):=aK nq2
   have e6:(upd H5 q2 (.tup [.int tk,.str z.2.1,.int (i+sp)])) q2=some (.tup [.int tk,.str z.2.1,.int (i+sp)]):=aD
   generalize upd H5 q2 (.tup [.int tk,.str z.2.1,.int (i+sp)])=H6 at s6 e6 ⊢
   refine⟨_,rfl,p,CP,dp,_,rfl,s6 _ _ p5,TP.cl,TP.nD,(by show 5<1000;decide),?_⟩
   rw [uQ]
   refine⟨_,rfl,p,CP,dp,_,_,rfl,aD,TP.cl,TP.nM,rfl,_,rfl,p,CP,dp,_,_,rfl,aD,TP.cl,TP.nH,rfl,_,rfl,by show 3<=sizeLine;decide,fun r nr=>?_⟩
   refine fin r _ (.ref q2) (fun a o e n=>aK nr _ _ (by rw [aG n];exact s6 _ _ e)) (aK nr _ _ aD) ?_ ?_
   ·rw [if_neg hd,hz']
    rw [<- ht'] at e6
    exact aK nr _ _ (by rw [aG (aX e6 (s6 _ _ p5) (by intro z;cases z))];exact e6)
   ·rw [if_neg hd]
    exact aD
end
end Ls
namespace L2
open PySem PySem.Spec PyProof.Rows PySem.W
def AbR (js:List Nat) (tc:TT) (σ:St) (Q:VK):It->Hp->Prop:=fun J H1=>∀acc,H1 acc=none ->
 ∃W:Nat->Nat->List V->Hp->Prop,(∃m,W 0 m [] (upd H1 acc (.lst [])))/\∀i m ys H,W i m ys H->H acc=some (.lst ys) /\
  ((J.stop i H/\Q (.ref acc) H)\/(J.go i H/\∀x H',J.yld i H x H'->dQ 0 x (gK 1 js σ) H' fun σ2 H2=>σ2.drop 1=(gK 1 js σ).drop 1/\tc σ2 H2 fun b H3=>
   if b=true then iE 0 σ2 H3 fun y H4=>H4 acc=some (.lst ys)/\ys.length<sizeLine/\∃m',m'<m/\W (i+1) m' (ys++[y]) (upd H4 acc (.lst (ys++[y])))
   else ∃m',m'<m/\W (i+1) m' ys H3))
theorem filtR {α:Type} {js:List Nat} {σ:St} {tc:TT} {Q:VK} {J:It} {H1:Hp} (xs:List α) (val:α->V) (pm:α->Bool) (ln:xs.length<=4000)
  (go:∀G i,aR H1 G->i<xs.length->J.go i G) (stop:∀G,aR H1 G->J.stop xs.length G) (yld:∀G i x G',aR H1 G->J.yld i G x G'->G'=G/\∃z,xs[i]?=some z/\x=val z)
  (tst:∀G z q,aR H1 G->z ∈ xs->q (pm z) G->tc (some (val z)::(js.map fun j=>(σ[j]?).join)) G q)
  (fin:∀la G,H1 la=none->aR H1 G->G la=some (.lst ((xs.filter pm).map val))->Q (.ref la) G):AbR js tc σ Q J H1:=by
 intro acc na
 have sl:sizeLine=16777216:=sizeLine_eq
 refine⟨fun i m ys G=>m=xs.length-i/\i<=xs.length/\ys=((xs.take i).filter pm).map val/\aR H1 G/\G acc=some (.lst ys),⟨_,rfl,Nat.zero_le _,rfl,aK na,aD⟩,?_⟩
 rintro i m ys G ⟨rfl,hi,rfl,sg,hA⟩
 refine⟨hA,?_⟩
 by_cases hlt:i<xs.length
 ·refine .inr ⟨go G i sg hlt,fun x G' hy=>?_⟩
  obtain⟨rfl,z,hz,rfl⟩:=yld _ _ _ _ sg hy
  have tk:xs.take (i+1)=xs.take i++[z]:=by rw [List.take_add_one,hz];rfl
  have lf:(((xs.take i).filter pm).map val).length<=i:=by
   rw [List.length_map]
   exact Nat.le_trans (List.length_filter_le _ _) (by rw [List.length_take];omega)
  refine⟨rfl,tst _ z _ sg (List.mem_of_getElem? hz) ?_⟩
  refine eF (fun hf=>?_) (fun hf=>?_)
  ·refine⟨_,rfl,hA,by omega,_,?_,rfl,hlt,?_,fun b o e=>?_,aD⟩
   ·omega
   ·rw [tk,List.filter_append,List.map_append]
    simp [hf]
   ·rw [aG (aF e na)]
    exact sg _ _ e
  ·refine⟨xs.length-(i+1),by omega,rfl,hlt,?_,sg,hA⟩
   rw [tk,List.filter_append,List.map_append]
   simp [hf]
 have e:i=xs.length:=by omega
 subst e
 rw [List.take_length] at hA
 exact .inl ⟨stop _ sg,fin _ _ na sg hA⟩
end L2
namespace Ls
open PySem L2 PySem.W
def Pc.lent (c:Pc):Bool:=c.o.isSome
def Pc.late (i:Int) (c:Pc):Bool:=c.o.any fun t=>decide (t.2.2<i)
def rQ (S:Pc->Bool) (cs:List Pc) (c:Pc):Prop:=c ∈ cs/\S c=true/\∀c' ∈ cs,S c'=true->¬ ltP c'.k c.k
inductive Cho (cs:List Pc) (le i:Int) (H:Hp):V->Prop where
 | pc {c:Pc} {r:Addr}:(rQ Pc.free cs c\/(∀c ∈ cs,c.free=false)/\rQ (Pc.late i) cs c)->H r=some (.tup [.str "piece",.int c.n])->Cho cs le i H (.ref r)
 | cut {c:Pc} {r:Addr}:(∀c ∈ cs,c.free=false)->(∀c ∈ cs,c.late i=false)->rQ Pc.lent cs c->2 * le<=c.h-c.m->H r=some (.tup [.str "cut",.int c.n,.int (c.h-(c.h-c.m) / 2)])->Cho cs le i H (.ref r)
 | non:(∀c ∈ cs,c.free=false)->(∀c ∈ cs,c.late i=false)->(∀c,rQ Pc.lent cs c->c.h-c.m<2 * le)->Cho cs le i H .non
theorem cQ.trans {T:Addr} {H H1 H2:Hp} (a:cQ T H H1) (b:cQ T H1 H2):cQ T H H2:=fun c o n e=>b c o n (a c o n e)
theorem cQ.t {T:Addr} {H H':Hp} {p:Pos} {q:Str} (tb:Tab H T p q) (k:cQ T H H'):dO H H':=by
 obtain⟨ps,e,_⟩:=tb
 exact k.toT e
theorem tH {H:Hp} {la:Addr} {zs:List (Pc × Addr)} (hl:H la=some (.lst (zs.map fun x=>V.ref x.2))):H la=some (.lst ((zs.map (·.2)).map V.ref)):=by rw [hl,List.map_map];rfl
theorem zY {zs:List (Pc × Addr)} (h:(!zs.isEmpty)=true):zs.map (·.2)≠[]:=fun z=>by rw [List.map_eq_nil_iff.mp z] at h;cases h
theorem iO {zs:List (Pc × Addr)} {i:Nat} {p:Addr} {c:Pc} (hp:(zs.map (·.2))[i]?=some p) (hc:(zs.map (·.1))[i]?=some c) (best:∀j c',(zs.map (·.1))[j]?=some c'->¬ ltP c'.k c.k/\(j<i->ltP c.k c'.k)):
  (c,p) ∈ zs/\∀z' ∈ zs,¬ ltP z'.1.k c.k:=by
 rw [List.getElem?_map] at hp hc
 cases hz:zs[i]? with
 | none=>rw [hz] at hp;cases hp
 | some z=>
  rw [hz] at hp hc
  cases hp
  cases hc
  refine⟨List.mem_of_getElem? hz,fun z' hz'=>?_⟩
  obtain⟨j,hj⟩:=List.mem_iff_getElem?.mp hz'
  exact(best j z'.1 (by rw [List.getElem?_map,hj];rfl)).1
theorem AgW {α:Type} {xs:List α} {p:α->Bool} (h:xs.filter p=[]):∀x ∈ xs,p x=false:=fun x hx=>by
 cases e:p x with
 | false=>rfl
 | true=>
  have:=List.mem_filter.mpr ⟨hx,e⟩
  rw [h] at this
  cases this
theorem oN {ps:List Addr} {cs:List Pc} (l:ps.length=cs.length) {c:Pc} (h:c ∈ cs):∃p,(c,p) ∈ cs.zip ps:=by
 obtain⟨k,hk⟩:=List.mem_iff_getElem?.mp h
 have kl:k<ps.length:=by have:=(List.getElem?_eq_some_iff.mp hk).1;omega
 exact⟨ps[k],List.mem_of_getElem? (i:=k) (List.getElem?_zip_eq_some.mpr ⟨hk,List.getElem?_eq_getElem kl⟩)⟩
theorem pG {ps:List Addr} {cs:List Pc} {S:Pc->Bool} (l:ps.length=cs.length) {z:Pc × Addr} {zs:List (Pc × Addr)} (ez:∀z,z ∈ zs↔z ∈ cs.zip ps/\S z.1=true) (hz:z ∈ zs) (b:∀z' ∈ zs,¬ ltP z'.1.k z.1.k):rQ S cs z.1:=by
 obtain⟨h1,h2⟩:=(ez z).mp hz
 refine⟨(List.of_mem_zip h1).1,h2,fun c hc hs=>?_⟩
 obtain⟨p,hp⟩:=oN l hc
 exact b (c,p) ((ez _).mpr ⟨hp,hs⟩)
theorem AbU {S:Pc->Bool} {cs:List Pc} {c c':Pc} (a:rQ S cs c) (b:rQ S cs c'):c.h-c.m=c'.h-c'.m:=by
 have h1:=a.2.2 _ b.1 b.2.1
 have h2:=b.2.2 _ a.1 a.2.1
 unfold ltP Pc.k at h1 h2
 simp only [not_or,not_and] at h1 h2
 omega
def iW (CB CP T:Addr):Sp:=fun vs H Q _=>∃(b pw sh d:Addr) (sp ev le nn nt mo i:Int) (ps:List Addr) (cs:List Pc),vs=[.ref b,.int i]/\eR CB CP H b pw sh d sp ev le nn nt mo ps cs/\cs.length<=1000/\mo<=i/\Tab H T oK iB /\
 ∀(v:V) (H':Hp),cQ T H H'->Tab H' T oK iB->Cho cs le i H' v->Q v H'
theorem sD {CP d:Addr} {H1:Hp} {ps:List Addr} {cs:List Pc} {o:Obj} {js:List Nat} {σ:St} {tc:TT} {Q:VK} (hd1:H1 d=some (.dK (dkv ps cs))) (hpc:Paired (fV CP H1) ps cs) (lc:cs.length<=1000) (pm:Pc->Bool)
  (tst:∀(G:Hp) (c:Pc) (p dp:Addr) (lv:V) (q:Bool->Hp->Prop),G p=some (.ins CP dp (pf c.n c.l c.h c.m lv))->jW G lv c.o->q (pm c) G->tc (some (.ref p)::(js.map fun j=>(σ[j]?).join)) G q)
  (fin:∀la G,H1 la=none->G d=some (.frz o (.dK (dkv ps cs)))->aR H1 (upd G d (.dK (dkv ps cs)))->(upd G d (.dK (dkv ps cs))) la=some (.lst (((cs.zip ps).filter fun x=>pm x.1).map fun x=>V.ref x.2))->Q (.ref la) G):
  AbR js tc σ Q (Itv d o (dkv ps cs)) (upd H1 d (.frz o (.dK (dkv ps cs)))):=by
 have lp:ps.length=cs.length:=hpc.length
 have lz:(cs.zip ps).length=cs.length:=by rw [List.length_zip];omega
 refine filtR (cs.zip ps) (fun x=>V.ref x.2) (fun x=>pm x.1) (by omega) (fun G i sg hi=>⟨sg _ _ aD,by rw [jT hpc];omega⟩) (fun G sg=>⟨sg _ _ aD,by rw [jT hpc];omega⟩) (fun G i x G' sg hy=>?_) (fun G z q sg hz hq=>?_) fun la G na sg hA=>?_
 ·obtain⟨rfl,e,he,rfl⟩:=hy
  obtain⟨c,p,hc,hp,rfl⟩:=vB he
  exact⟨rfl,(c,p),List.getElem?_zip_eq_some.mpr ⟨hc,hp⟩,rfl⟩
 ·obtain⟨lv,⟨dp,hat⟩,hld⟩:=eW hpc z hz
  refine tst G z.1 z.2 dp lv q (sg _ _ (by rw [aG (aX hat hd1 (by intro z;cases z))];exact hat)) (hld.move fun q ys e=>sg _ _ (by rw [aG (aX e hd1 (by intro z;cases z))];exact e)) hq
 ·obtain⟨na1,nla⟩:=AgQ hd1 na
  exact fin la _ na1 (sg _ _ aD) (sG hd1 sg) (by rw [aG nla];exact hA)
theorem vS {H0 H:Hp} {js:List Nat} {wi:TI} {tc:TT} {ix:Nat} {r:TS} {D:jI} {σ:St} (h:wi σ H (AbR js tc σ (fun x H1=>∃a o kvs,H1 a=some (.frz o (.dK kvs))/\(∀o v,H0 a≠some (.frz o v))/\r D (σ.set ix (some x)) (upd H1 a (.dK kvs))))):tSeq (sThaw H0 (tAsg (tJ 1 js wi (dQ 0) tc (iE 0)) (dQ ix))) r D σ H:=h
theorem AeD {H:Hp} {js:List Nat} {wi:TI} {tc:TT} {ix:Nat} {r:TS} {D:jI} {σ:St} (h:wi σ H (AbR js tc σ (fun x H1=>r D (σ.set ix (some x)) H1))):tSeq (tAsg (tJ 1 js wi (dQ 0) tc (iE 0)) (dQ ix)) r D σ H:=h
theorem xS {K:Frag} {H:Hp} {la:Addr} {zs:List (Pc × Addr)} (e:H la=some (.lst (zs.map fun x=>V.ref x.2))):TruV K (.ref la) H (!zs.isEmpty):=.inl ⟨_,SqL.of e,by cases zs <;> rfl⟩
theorem zJ {zs:List (Pc × Addr)} (h:¬ (!zs.isEmpty)=true):zs=[]:=by
 cases zs with
 | nil=>rfl
 | cons a l=>exact absurd rfl h
section
variable {P:Program} {w:World} {K:PySem.W.Frag} {mg:Str->Option Value} {base:Heap}
theorem ndPM:(["piece","moment"]:List Str).Nodup:=by decide +kernel
theorem AcR {f CB CP T fM fF fG fL fT fR:Addr} {fd fdM fdF fdG fdL fdT fdR:FuncData} (F:Fun K "choice" "Book.choice" jA f fd) (TB:Bl K mg CB) (TP:Pl K mg CP)
  (GM:aJ P w K mg base CX0 2 fM fdM ["self","moment"] (oP CB)) (bM:aO K fdM ["self","moment"] []) (mM:dE K CB "check_moment" fM)
  (GF:aJ P w K mg base CX0 2 fF fdF ["self"] (yB CP)) (bF:aO K fdF ["self"] []) (mF:dE K CP "is_free" fF)
  (GL:aJ P w K mg base CX0 1 fL fdL ["self"] (kJ CP)) (bL:aO K fdL ["self"] []) (mL:dE K CP "is_lent" fL)
  (GT:aJ P w K mg base CX0 2 fT fdT ["self","moment"] (xX CP)) (bT:aO K fdT ["self","moment"] []) (mT:dE K CP "is_late" fT)
  (GR:aJ P w K mg base CX0 1 fR fdR ["self"] (pN CP)) (bR:aO K fdR ["self"] []) (mR:dE K CP "rest" fR)
  (GG:aJ P w K mg base CX0 4 fG fdG ["pieces"] (tY CP T)) (kG:keepIn K (.ref fG)=true) (bG:aO K fdG ["pieces"] []) (mG:mg "greatest"=some (.ref fG)):
  aJ P w K mg base CX0 5 f fd ["self","moment"] (iW CB CP T):=by
 refine F.ok iY (fun vs H Q E h=>?_) (fun cdv A outer s H vs Q E hr h=>?_)
 ·obtain⟨b,pw,sh,d,sp,ev,le,nn,nt,mo,i,ps,cs,rfl,_⟩:=h
  rfl
 ·obtain⟨b,pw,sh,d,sp,ev,le,nn,nt,mo,i₀,ps,cs,rfl,hb,lc,hi₀,tb,t⟩:=h
  have hr2:Room 2 (A.deeper (PyProof.Rows.envOfC "Book.choice" (aH jA) s.heap.objs.size f cdv)):=hr.mono (by decide)
  have hr1:Room 1 (A.deeper (PyProof.Rows.envOfC "Book.choice" (aH jA) s.heap.objs.size f cdv)):=hr.mono (by decide)
  refine⟨_,aC (cT (cU (pv 0) TB.cl mM GM hr2 bM .nil aN (aA (pv 1) aB)))
   (aC (AaS (oV (ix:=3) iY.nd rfl (Or.inl rfl) (NB:=["piece"]) (n:=1) (js:=[]) (g:=dQ 0) (cl:=[]) rfl (by decide +kernel) (by decide +kernel) rfl
     (fY.of rfl cF (aQ (fun z=>nomatch z) (aQ (fun z=>nomatch z) cF)) rfl (fun k j h=>absurd h (by simp)) cF)
     (uP (oY (aV (pv 0) rfl))) (fun C s H fp pn=>cG (i:=0) ndPc rfl (Or.inl rfl) (.inr rfl)) (fun C s H fp pn=>jP (cW (cM (pv 0) TP.cl mF GF hr2 bF .nil aN))) (fun C s H fp pn=>pv 0)))
   (aC (cJ (hX (pv 3) (fun _=>rfl)) (aI (aY (cC (aA aZ (aA (aV (aL GG hr rfl mG kG bG .nil aN (aA (pv 3) aB)) rfl) aB))))) bV)
   (aC (AaS (oV (ix:=4) iY.nd rfl (Or.inl rfl) (NB:=["piece"]) (n:=1) (js:=[]) (g:=dQ 0) (cl:=[]) rfl (by decide +kernel) (by decide +kernel) rfl
     (fY.of rfl cF (aQ (fun z=>nomatch z) (aQ (fun z=>nomatch z) cF)) rfl (fun k j h=>absurd h (by simp)) cF)
     (uP (oY (aV (pv 0) rfl))) (fun C s H fp pn=>cG (i:=0) ndPc rfl (Or.inl rfl) (.inr rfl)) (fun C s H fp pn=>jP (cW (cM (pv 0) TP.cl mL GL hr1 bL .nil aN))) (fun C s H fp pn=>pv 0)))
   (aC (oV (ix:=5) iY.nd rfl (Or.inl rfl) (NB:=["piece","moment"]) (n:=1) (js:=[1]) (g:=dQ 0) (cl:=[("moment",s.heap.objs.size+1)]) rfl (by decide +kernel) (by decide +kernel) rfl
     (fY.of rfl (aQ rfl cF) (aQ (fun z=>nomatch z) (aQ (fun z=>nomatch z) (aQ (fun _=>rfl) cF))) rfl
      (fun k j h=>match k,j,h with|0,_,rfl=>rfl|k+1,_,h=>absurd h (by simp)) (aQ ⟨.inl rfl,.inl rfl,rfl⟩ cF))
     (oX (pv 4)) (fun C s H fp pn=>cG (i:=0) ndPM rfl (Or.inl rfl) (.inr rfl)) (fun C s H fp pn=>jP (cW (cU (pv 0) TP.cl mT GT hr2 bT .nil aN (aA (pv 1) aB)))) (fun C s H fp pn=>pv 0))
   (aC (cJ (hX (pv 5) (fun _=>rfl)) (aI (aY (cC (aA aZ (aA (aV (aL GG hr rfl mG kG bG .nil aN (aA (pv 5) aB)) rfl) aB))))) bV)
   (aC (cJ (PW.pt (kR (hX (pv 4) (fun _=>rfl)) (iI (cB op_ge (cM (aL GG hr rfl mG kG bG .nil aN (aA (pv 4) aB)) TP.cl mR GR hr1 bR .nil aN) (bU kY aE (aV (pv 0) rfl)) (bX _)))))
    (aC (aU (i:=2) iY.nd rfl (Or.inl rfl) (aL GG hr rfl mG kG bG .nil aN (aA (pv 4) aB)))
    (aI (aY (cC (aA aZ (aA (aV (pv 2) rfl) (aA (bU kX (aV (pv 2) rfl) (bU uV (cM (pv 2) TP.cl mR GR hr1 bR .nil aN) aE)) aB))))))) bV)
   (aI (aY dX)))))))),?_⟩
  have sl:sizeLine=16777216:=sizeLine_eq
  obtain⟨⟨dx,hbo⟩,hdc,hpc⟩:=id hb
  have nf:∀{H:Hp},H d=some (.dK (dkv ps cs))->∀(o:Obj) (v:HO),H d≠some (.frz o v):=fun e o v z=>by rw [e] at z;cases z
  have lp:ps.length=cs.length:=hpc.length
  refine⟨_,rfl,b,dx,_,rfl,hbo,rfl,_,rfl,b,pw,sh,d,sp,ev,le,nn,nt,mo,i₀,rfl,⟨dx,hbo⟩,hi₀,?_⟩
  dsimp only [AaF]
  refine vS ?_
  refine⟨_,rfl,b,CB,dx,_,_,rfl,hbo,TB.cl,TB.nB,rfl,.inr (.inr (.inl ⟨rfl,.inl ⟨_,hdc⟩⟩)),d,_,rfl,rfl,hdc,fun v nv=>?_⟩
  have s1:aR H (upd H v (eK v d)):=aK nv
  have e1:(upd H v (eK v d)) v=some (eK v d):=aD
  generalize upd H v (eK v d)=H1 at s1 e1 ⊢
  refine⟨v,d,dkv ps cs,rfl,e1,s1 _ _ hdc,fun o=>?_⟩
  refine sD (s1 _ _ hdc) (dF (aR.toT s1) hpc) lc Pc.free (fun G c p dp lv q hp hl hq=>?_) fun la G0 na fz sg hA=>?_
  ·refine⟨_,rfl,p,dp,_,rfl,hp,rfl,p,_,_,_,_,lv,rfl,⟨dp,hp⟩,_,rfl,?_⟩
   rw [hl.non]
   exact hq
  refine⟨d,o,_,fz,nf hdc,?_⟩
  generalize upd G0 d (.dK (dkv ps cs))=G at sg hA ⊢
  have s2:=s1.trans sg
  clear s1 sg na e1 fz
  have hb2:=s2 _ _ hbo
  have hd2:=s2 _ _ hdc
  have pc2:=dF (aR.toT s2) hpc
  have tb2:=tb.same s2
  have pz2:∀z ∈ cs.zip ps,fV CP G z.2 z.1:=eW pc2
  refine⟨_,rfl,_,xS hA,eF (fun hf=>?_) (fun hf=>?_)⟩
  ·refine⟨_,rfl,la,_,_,rfl,tH hA,gD fun z hz=>pz2 z (List.mem_filter.mp hz).1,zY hf,tb2,fun j p c H3 kt tb3 hp hc best=>?_⟩
   obtain⟨hz,bz⟩:=iO hp hc best
   obtain⟨lv,⟨dp,hat⟩,_⟩:=(pz2 _ (List.mem_filter.mp hz).1).sameT (cQ.t tb2 kt)
   refine⟨p,CP,dp,_,_,rfl,hat,TP.cl,TP.nN,rfl,by show 2<=sizeLine;decide,fun r nr=>?_⟩
   exact t _ _ ((cQ.pre s2 kt).same (aK nr)) (tb3.same (aK nr)) (.pc (.inl (pG lp (fun z=>List.mem_filter) hz bz)) aD)
  have noF:∀c ∈ cs,c.free=false:=fun c hc=>by
   obtain⟨p,hp⟩:=oN lp hc
   exact AgW (zJ hf) _ hp
  clear hA
  dsimp only [AaF]
  refine vS ?_
  refine⟨_,rfl,b,CB,dx,_,_,rfl,hb2,TB.cl,TB.nB,rfl,.inr (.inr (.inl ⟨rfl,.inl ⟨_,hd2⟩⟩)),d,_,rfl,rfl,hd2,fun v nv=>?_⟩
  have s1:aR G (upd G v (eK v d)):=aK nv
  have e1:(upd G v (eK v d)) v=some (eK v d):=aD
  generalize upd G v (eK v d)=H1 at s1 e1 ⊢
  refine⟨v,d,dkv ps cs,rfl,e1,s1 _ _ hd2,fun o=>?_⟩
  refine sD (s1 _ _ hd2) (dF (aR.toT s1) pc2) lc Pc.lent (fun G c p dp lv q hp hl hq=>?_) fun ll G0 na fz sg hL=>?_
  ·refine⟨_,rfl,p,dp,_,rfl,hp,rfl,p,_,_,_,_,lv,rfl,⟨dp,hp⟩,_,rfl,?_⟩
   rw [hl.non]
   have e:(!c.o.isNone)=c.lent:=by unfold Pc.lent;cases c.o <;> rfl
   rw [e]
   exact hq
  refine⟨d,o,_,fz,nf hdc,?_⟩
  generalize upd G0 d (.dK (dkv ps cs))=H2 at sg hL ⊢
  have s3:=s2.trans (s1.trans sg)
  clear s1 sg na e1 fz hb2 hd2 pc2 tb2 pz2 s2
  have hb3:=s3 _ _ hbo
  have pc3:=dF (aR.toT s3) hpc
  have tb3:=tb.same s3
  have pz3:∀z ∈ cs.zip ps,fV CP H2 z.2 z.1:=eW pc3
  refine AeD ?_
  refine⟨_,rfl,ll,rfl,⟨_,SqL.of hL⟩,?_⟩
  refine filtR ((cs.zip ps).filter fun x=>Pc.lent x.1) (fun x=>V.ref x.2) (fun x=>Pc.late i₀ x.1) (Nat.le_trans (List.length_filter_le _ _) (by rw [List.length_zip];omega)) (fun G i sg hi=>?_) (fun G sg=>?_) (fun G i x G' sg hy=>?_) (fun G z q sg hz hq=>?_) fun lt G na sg hT=>?_
  ·exact⟨_,_,SqL.of (sg _ _ hL),by rw [List.getElem?_map,List.getElem?_eq_getElem hi];rfl⟩
  ·exact⟨_,SqL.of (sg _ _ hL),by rw [List.length_map];exact Nat.le_refl _⟩
  ·obtain⟨rfl,hx⟩:=hy
   have hx:=hx _ (SqL.of (sg _ _ hL))
   rw [List.getElem?_map] at hx
   cases hz:((cs.zip ps).filter fun x=>Pc.lent x.1)[i]? with
   | none=>rw [hz] at hx;cases hx
   | some z=>
    rw [hz] at hx
    cases hx
    exact⟨rfl,z,rfl,rfl⟩
  ·obtain⟨lv,⟨dp,hp⟩,hl⟩:=(pz3 z (List.mem_filter.mp hz).1).sameT (aR.toT sg)
   exact⟨_,rfl,z.2,dp,_,rfl,hp,rfl,_,rfl,z.2,_,_,_,_,i₀,lv,_,rfl,⟨dp,hp⟩,hl,_,rfl,hq⟩
  have s4:=s3.trans sg
  have hL4:=sg _ _ hL
  clear hL sg na pz3 tb3 pc3 hb3 s3
  have hb4:=s4 _ _ hbo
  have tb4:=tb.same s4
  have pz4:∀z ∈ cs.zip ps,fV CP G z.2 z.1:=eW (dF (aR.toT s4) hpc)
  have el:∀z,z ∈ ((cs.zip ps).filter fun x=>Pc.lent x.1).filter (fun x=>Pc.late i₀ x.1)↔z ∈ cs.zip ps/\Pc.late i₀ z.1=true:=fun z=>by
   rw [List.mem_filter,List.mem_filter]
   refine⟨fun h=>⟨h.1.1,h.2⟩,fun h=>⟨⟨h.1,?_⟩,h.2⟩⟩
   have h2:=h.2
   unfold Pc.late at h2
   unfold Pc.lent
   cases e:z.1.o with
   | none=>rw [e] at h2;cases h2
   | some _=>rfl
  refine⟨_,rfl,_,xS hT,eF (fun hf=>?_) (fun hf=>?_)⟩
  ·refine⟨_,rfl,lt,_,_,rfl,tH hT,gD fun z hz=>pz4 z ((el z).mp hz).1,zY hf,tb4,fun j p c H3 kt tb3 hp hc best=>?_⟩
   obtain⟨hz,bz⟩:=iO hp hc best
   obtain⟨lv,⟨dp,hat⟩,_⟩:=(pz4 _ ((el _).mp hz).1).sameT (cQ.t tb4 kt)
   refine⟨p,CP,dp,_,_,rfl,hat,TP.cl,TP.nN,rfl,by show 2<=sizeLine;decide,fun r nr=>?_⟩
   exact t _ _ ((cQ.pre s4 kt).same (aK nr)) (tb3.same (aK nr)) (.pc (.inr ⟨noF,pG lp el hz bz⟩) aD)
  have noL:∀c ∈ cs,c.late i₀=false:=fun c hc=>by
   obtain⟨p,hp⟩:=oN lp hc
   cases e:c.late i₀ with
   | false=>rfl
   | true=>have:=(el (c,p)).mpr ⟨hp,e⟩;rw [zJ hf] at this;cases this
  clear hT el
  refine⟨_,rfl,_,xS hL4,eF (fun hf=>?_) (fun hf=>?_)⟩
  ·refine⟨_,rfl,ll,_,_,rfl,tH hL4,gD fun z hz=>pz4 z (List.mem_filter.mp hz).1,zY hf,tb4,fun j p c H3 kt tb5 hp hc best=>?_⟩
   obtain⟨hz,bz⟩:=iO hp hc best
   have bc:=pG lp (fun z=>List.mem_filter) hz bz
   have st5:=cQ.t tb4 kt
   obtain⟨lv,⟨dp,hat⟩,_⟩:=(pz4 _ (List.mem_filter.mp hz).1).sameT st5
   refine⟨p,dp,_,rfl,hat,rfl,p,_,_,_,_,lv,rfl,⟨dp,hat⟩,_,rfl,b,CB,dx,_,_,rfl,st5.at hb4,TB.cl,TB.nL,rfl,_,_,rfl,rfl,.inl ⟨by decide,by decide⟩,_,_,rfl,rfl,?_⟩
   refine⟨_,rfl,eF (fun hq=>?_) (fun hq=>?_)⟩
   ·refine⟨_,rfl,ll,_,_,rfl,tH (st5.at hL4),gD fun z hz=>(pz4 z (List.mem_filter.mp hz).1).sameT st5,zY hf,tb5,fun j' p' c' H6 kt6 tb6 hp' hc' best'=>?_⟩
    obtain⟨hz',bz'⟩:=iO hp' hc' best'
    have bc':=pG lp (fun z=>List.mem_filter) hz' bz'
    obtain⟨lv',⟨dp',hat'⟩,_⟩:=((pz4 _ (List.mem_filter.mp hz').1).sameT st5).sameT (cQ.t tb5 kt6)
    refine⟨_,rfl,p',CP,dp',_,_,rfl,hat',TP.cl,TP.nN,rfl,_,rfl,p',CP,dp',_,_,rfl,hat',TP.cl,TP.nH,rfl,_,rfl,p',dp',_,rfl,hat',rfl,p',_,_,_,_,lv',rfl,⟨dp',hat'⟩,_,_,rfl,rfl,⟨by decide,by decide⟩,_,_,rfl,rfl,by show 3<=sizeLine;decide,fun r nr=>?_⟩
    have hq:=of_decide_eq_true hq
    have:=AbU bc bc'
    exact t _ _ ((cQ.trans (cQ.pre s4 kt) kt6).same (aK nr)) (tb6.same (aK nr)) (.cut noF noL bc' (by omega) aD)
   ·refine t _ _ (cQ.pre s4 kt) tb5 (.non noF noL fun c' hc'=>?_)
    have:=AbU bc hc'
    have hq:=of_decide_eq_false (Bool.eq_false_iff.mpr hq)
    omega
  ·refine dH ?_
   refine t _ _ (fun b o _ e=>s4 _ _ e) tb4 (.non noF noL fun c' hc'=>?_)
   obtain⟨p,hp⟩:=oN lp hc'.1
   have:=List.mem_filter (p:=fun x:Pc × Addr=>Pc.lent x.1).mpr ⟨hp,hc'.2.1⟩
   rw [zJ hf] at this
   cases this
def ChP (cs:List Pc) (i:Int) (c:Pc):Prop:=rQ Pc.free cs c\/(∀c ∈ cs,c.free=false)/\rQ (Pc.late i) cs c
theorem ChP.mem {cs:List Pc} {i:Int} {c:Pc} (h:ChP cs i c):c ∈ cs:=by
 rcases h with h|⟨_,h⟩
 ·exact h.1
 ·exact h.1
def Pk (cs:List Pc) (i:Int):Prop:=(∃c ∈ cs,c.free=true)\/∃c ∈ cs,c.late i=true
theorem ChP.pk {cs:List Pc} {i:Int} {c:Pc} (h:ChP cs i c):Pk cs i:=by
 rcases h with h|⟨_,h⟩
 ·exact .inl ⟨c,h.1,h.2.1⟩
 ·exact .inr ⟨c,h.1,h.2.1⟩
theorem Pk.no {cs:List Pc} {i:Int} {p:Prop} (k:Pk cs i) (a:∀c ∈ cs,c.free=false) (b:∀c ∈ cs,c.late i=false):p:=by
 rcases k with ⟨c,h,e⟩|⟨c,h,e⟩
 ·rw [a c h] at e;cases e
 ·rw [b c h] at e;cases e
theorem Cho.pc_of {cs:List Pc} {le i:Int} {H:Hp} {v:V} (h:Cho cs le i H v) (k:Pk cs i):∃c r,v=.ref r/\ChP cs i c/\H r=some (.tup [.str "piece",.int c.n]):=by
 cases h with
 | pc h e=>exact⟨_,_,rfl,h,e⟩
 | cut a b _ _ _=>exact k.no a b
 | non a b _=>exact k.no a b
def mQ (CB CP T:Addr):Sp:=fun vs H Q _=>∃(b pw sh d:Addr) (sp ev le nn nt mo i:Int) (ps:List Addr) (cs:List Pc),vs=[.ref b,.int i]/\eR CB CP H b pw sh d sp ev le nn nt mo ps cs/\cs.length<=1000/\mo<=i/\Tab H T oK iB/\Pk cs i /\
 ∀(c:Pc) (r:Addr) (H':Hp),ChP cs i c->cQ T H H'->Tab H' T oK iB->H' r=some (.tup [.int nt,.int c.n])->Q (.ref r) H'
def tT (CB CP T:Addr):Sp:=fun vs H Q _=>∃(b pw sh d:Addr) (sp ev le nn nt mo i:Int) (x:Str) (ps:List Addr) (cs:List Pc),vs=[.ref b,.str x,.int i]/\eR CB CP H b pw sh d sp ev le nn nt mo ps cs/\cs.length<=1000/\(cs.map Pc.n).Nodup/\lX x/\mo<=i/\Tab H T oK iB/\Pk cs i /\
 ∀(k:Nat) (p:Addr) (c:Pc) (r:Addr) (H':Hp),ps[k]?=some p->cs[k]?=some c->ChP cs i c->(∀a o,H a=some o->a≠b->a≠p->a≠T->H' a=some o)->Tab H' T oK iB ->
  eR CB CP H' b pw sh d sp ev le nn (nt+1) i ps (cs.set k { c with o:=some (nt,x,i+sp) })->H' r=some (.tup [.int nt,.int c.n,.int c.m,.int c.h,.int (i+sp)])->Q (.ref r) H'
theorem vV:aP ["self","moment","chosen"] ["self","moment"] (aH qF):=⟨rfl,rfl,rfl,by decide +kernel,rfl,by decide +kernel,by decide +kernel⟩
theorem zG {f CB CP T fC:Addr} {fd fdC:FuncData} (F:Fun K "coming" "Book.coming" qF f fd) (TB:Bl K mg CB)
  (GC:aJ P w K mg base CX0 5 fC fdC ["self","moment"] (iW CB CP T)) (bC:aO K fdC ["self","moment"] []) (mC:dE K CB "choice" fC):
  aJ P w K mg base CX0 6 f fd ["self","moment"] (mQ CB CP T):=by
 refine F.ok vV (fun vs H Q E h=>?_) (fun cdv A outer s H vs Q E hr h=>?_)
 ·obtain⟨b,pw,sh,d,sp,ev,le,nn,nt,mo,i,ps,cs,rfl,_⟩:=h
  rfl
 ·obtain⟨b,pw,sh,d,sp,ev,le,nn,nt,mo,i,ps,cs,rfl,hb,lc,hi,tb,ex,t⟩:=h
  refine⟨_,aC (aU (i:=2) vV.nd rfl (Or.inl rfl) (cU (pv 0) TB.cl mC GC hr bC .nil aN (aA (pv 1) aB)))
   (aC (cJ (cB qO (pv 2) dX (bX _)) (aI (aY dX)) bV)
   (aC (cJ (cB gO (bJ bQ (pv 2) aE (fun _ _=>rfl)) aZ (bX _)) cD bV)
   (aI (aY (cC (aA (aV (pv 0) rfl) (aA (bJ bQ (pv 2) aE (fun _ _=>rfl)) aB))))))),?_⟩
  obtain⟨dx,hbo⟩:=hb.ob
  refine⟨_,rfl,b,dx,_,rfl,hbo,rfl,_,rfl,b,pw,sh,d,sp,ev,le,nn,nt,mo,i,ps,cs,rfl,hb,lc,hi,tb,fun v H2 kt tb2 ch=>?_⟩
  obtain⟨c,r0,rfl,bc,e2⟩:=ch.pc_of ex
  refine⟨_,rfl,rfl,_,rfl,dH ?_⟩
  refine⟨_,rfl,r0,_,_,_,rfl,rfl,SqT.of e2,aM (j:=0) rfl,rfl,_,rfl,eX (by decide +kernel) ?_⟩
  refine⟨_,rfl,b,CB,dx,_,_,rfl,(cQ.t tb kt).at hbo,TB.cl,TB.nT,rfl,_,rfl,r0,_,_,_,rfl,rfl,SqT.of e2,aM (j:=1) rfl,by show 2<=sizeLine;decide,fun r nr=>?_⟩
  exact t c r _ bc (kt.same (aK nr)) (tb2.same (aK nr)) aD
theorem AfR {f CB CP T fW fC fP:Addr} {fd fdW fdC fdP:FuncData} (F:Fun K "lend" "Book.lend" yT f fd) (TB:Bl K mg CB) (TP:Pl K mg CP)
  (GW:aJ P w K mg base CX0 5 fW fdW ["worker"] iF) (kW:keepIn K (.ref fW)=true) (bW:aO K fdW ["worker"] []) (mW:mg "check_worker"=some (.ref fW))
  (GC:aJ P w K mg base CX0 5 fC fdC ["self","moment"] (iW CB CP T)) (bC:aO K fdC ["self","moment"] []) (mC:dE K CB "choice" fC)
  (GP:aJ P w K mg base CX0 5 fP fdP ["self","number"] (tK CB CP)) (bP:aO K fdP ["self","number"] []) (mP:dE K CB "piece_with" fP):
  aJ P w K mg base CX0 6 f fd ["self","worker","moment"] (tT CB CP T):=by
 refine F.ok pY (fun vs H Q E h=>?_) (fun cdv A outer s H vs Q E hr h=>?_)
 ·obtain⟨b,pw,sh,d,sp,ev,le,nn,nt,mo,i,x,ps,cs,rfl,_⟩:=h
  rfl
 ·obtain⟨b,pw,sh,d,sp,ev,le,nn,nt,mo,i,x,ps,cs,rfl,hb,lc,nd,wx,hi,tb,ex,t⟩:=h
  refine⟨_,aC (cT (aL GW hr rfl mW kW bW .nil aN (aA (pv 1) aB)))
   (aC (aU (i:=3) pY.nd rfl (Or.inl rfl) (cU (pv 0) TB.cl mC GC hr bC .nil aN (aA (pv 2) aB)))
   (aC (cJ (cB qO (pv 3) dX (bX _)) (aI (aY dX)) bV)
   (aC (aU (i:=4) pY.nd rfl (Or.inl rfl) (cU (pv 0) TB.cl mP GP hr bP .nil aN (aA (bJ bQ (pv 3) aE (fun _ _=>rfl)) aB)))
   (aC (cJ (cB gO (bJ bQ (pv 3) aE (fun _ _=>rfl)) aZ (bX _)) cD bV)
   (aC (aU (i:=5) pY.nd rfl (Or.inl rfl) (aV (pv 0) rfl))
   (aC (aU (i:=6) pY.nd rfl (Or.inl rfl) (bU dG (pv 2) (aV (pv 0) rfl)))
   (aC (dJ (pv 4) (cC (aA (pv 5) (aA (pv 1) (aA (pv 6) aB)))) rfl)
   (aC (dJ (pv 0) (bU dG (pv 5) aE) rfl)
   (aC (dJ (pv 0) (pv 2) rfl)
   (aI (aY (cC (aA (pv 5) (aA (aV (pv 4) rfl) (aA (aV (pv 4) rfl) (aA (aV (pv 4) rfl) (aA (pv 6) aB))))))))))))))))),?_⟩
  have sl:sizeLine=16777216:=sizeLine_eq
  refine⟨_,rfl,x,rfl,wx,fun H1 s1=>?_⟩
  have hb1:=hb.sameT (aR.toT s1)
  obtain⟨dx,hbo1⟩:=hb1.ob
  refine⟨_,rfl,b,dx,_,rfl,hbo1,rfl,_,rfl,b,pw,sh,d,sp,ev,le,nn,nt,mo,i,ps,cs,rfl,hb1,lc,hi,tb.same s1,fun v H2 kt tb2 ch=>?_⟩
  obtain⟨c,r0,rfl,bc,e2⟩:=ch.pc_of ex
  have hc:=bc.mem
  have st:dO H1 H2:=by
   obtain⟨qs,e,_⟩:=tb.same s1
   exact kt.toT e
  have hb2:=hb1.sameT st
  obtain⟨⟨dx2,hbo⟩,hdc,hpc⟩:=id hb2
  obtain⟨k,hk⟩:=List.mem_iff_getElem?.mp hc
  obtain⟨p,hpk⟩:∃p,ps[k]?=some p:=⟨_,List.getElem?_eq_getElem (by have:=hpc.length;have:=(List.getElem?_eq_some_iff.mp hk).1;omega)⟩
  obtain⟨c',hc',lv,⟨dp,hat⟩,hld⟩:=cA hpc hpk
  rw [hk] at hc'
  cases hc'
  refine⟨_,rfl,rfl,_,rfl,dH ?_⟩
  refine⟨_,rfl,b,dx2,_,rfl,hbo,rfl,_,rfl,r0,_,_,_,rfl,rfl,SqT.of e2,aM (j:=1) rfl,b,pw,sh,d,sp,ev,le,nn,nt,mo,ps,cs,k,p,c,rfl,hb2,hpk,hk,nd,?_⟩
  refine⟨_,rfl,r0,_,_,_,rfl,rfl,SqT.of e2,aM (j:=0) rfl,rfl,_,rfl,eX (by decide +kernel) ?_⟩
  refine⟨_,rfl,b,CB,dx2,_,_,rfl,hbo,TB.cl,TB.nT,rfl,?_⟩
  refine⟨_,rfl,_,rfl,b,CB,dx2,_,_,rfl,hbo,TB.cl,TB.nS,rfl,_,_,rfl,rfl,?_⟩
  refine⟨_,rfl,_,rfl,_,rfl,by show 3<=sizeLine;decide,fun q nq=>?_⟩
  have s3:aR H2 (upd H2 q (.tup [.int nt,.str x,.int (i+sp)])):=aK nq
  have e3:(upd H2 q (.tup [.int nt,.str x,.int (i+sp)])) q=some (.tup [.int nt,.str x,.int (i+sp)]):=aD
  generalize upd H2 q (.tup [.int nt,.str x,.int (i+sp)])=H3 at s3 e3 ⊢
  have hat3:=s3 _ _ hat
  have hbo3:=s3 _ _ hbo
  have npb:p≠b:=aX hat hbo (by intro z;injection z with _ _ z;injection z with z;injection z with z;exact absurd z (by decide +kernel))
  refine⟨_,rfl,p,CP,dp,_,rfl,hat3,TP.cl,TP.nD,(by show 5<1000;decide),?_⟩
  rw [uQ]
  refine⟨_,rfl,_,_,rfl,rfl,_,rfl,b,CB,dx2,_,rfl,(by rw [aG npb.symm];exact hbo3),TB.cl,TB.nT,(by show 9<1000;decide),?_⟩
  rw [AhP]
  refine⟨_,rfl,_,rfl,b,CB,dx2,_,rfl,aD,TB.cl,TB.nM,(by show 9<1000;decide),?_⟩
  rw [eI,tG]
  have k5:∀a o,H3 a=some o->a≠p->a≠b->(upd (upd H3 p (.ins CP dp (pf c.n c.l c.h c.m (.ref q)))) b (.ins CB dx2 (bf pw sh d sp ev le nn (nt+1) i))) a=some o:=fun a o e n1 n2=>by
   rw [aG n2,aG n1]
   exact e
  have p5:(upd (upd H3 p (.ins CP dp (pf c.n c.l c.h c.m (.ref q)))) b (.ins CB dx2 (bf pw sh d sp ev le nn (nt+1) i))) p=some (.ins CP dp (pf c.n c.l c.h c.m (.ref q))):=by rw [aG npb,aD]
  have b5:(upd (upd H3 p (.ins CP dp (pf c.n c.l c.h c.m (.ref q)))) b (.ins CB dx2 (bf pw sh d sp ev le nn (nt+1) i))) b=some (.ins CB dx2 (bf pw sh d sp ev le nn (nt+1) i)):=aD
  generalize upd (upd H3 p (.ins CP dp (pf c.n c.l c.h c.m (.ref q)))) b (.ins CB dx2 (bf pw sh d sp ev le nn (nt+1) i))=H5 at k5 p5 b5 ⊢
  refine⟨_,rfl,_,rfl,p,CP,dp,_,_,rfl,p5,TP.cl,TP.nN,rfl,_,rfl,p,CP,dp,_,_,rfl,p5,TP.cl,TP.nM,rfl,_,rfl,p,CP,dp,_,_,rfl,p5,TP.cl,TP.nH,rfl,_,rfl,by show 5<=sizeLine;decide,fun r nr=>?_⟩
  have s6:aR H5 (upd H5 r (.tup [.int nt,.int c.n,.int c.m,.int c.h,.int (i+sp)])):=aK nr
  have tp:∀a ys,H2 a=some (.tup ys)->(upd H5 r (.tup [.int nt,.int c.n,.int c.m,.int c.h,.int (i+sp)])) a=some (.tup ys):=fun a ys e=>s6 _ _ (k5 _ _ (s3 _ _ e) (aX e hat (by intro z;cases z)) (aX e hbo (by intro z;cases z)))
  have tq:(upd H5 r (.tup [.int nt,.int c.n,.int c.m,.int c.h,.int (i+sp)])) q=some (.tup [.int nt,.str x,.int (i+sp)]):=s6 _ _ (k5 _ _ e3 (aX e3 hat3 (by intro z;cases z)) (aX e3 hbo3 (by intro z;cases z)))
  refine t k p c r _ hpk hk bc (fun a o e n1 n2 n3=>s6 _ _ (k5 _ _ (s3 _ _ (kt _ _ n3 (s1 _ _ e))) n2 n1)) ?_ ⟨⟨dx2,s6 _ _ b5⟩,?_,?_⟩ aD
  ·obtain⟨qs,g1,g2,g3⟩:=tb2
   refine⟨qs,s6 _ _ (k5 _ _ (s3 _ _ g1) (aX g1 hat (by intro z;cases z)) (aX g1 hbo (by intro z;cases z))),g2,?_⟩
   rcases g3 with g3|⟨c',g3,g4⟩
   ·exact .inl g3
   ·exact .inr ⟨c',g3,s6 _ _ (k5 _ _ (s3 _ _ g4) (aX g4 hat (by intro z;cases z)) (aX g4 hbo (by intro z;cases z)))⟩
  ·rw [vA (c':={ c with o:=some (nt,x,i+sp) }) hk rfl]
   exact s6 _ _ (k5 _ _ (s3 _ _ hdc) (aX hdc hat (by intro z;cases z)) (aX hdc hbo (by intro z;cases z)))
  ·refine kU hpc nd hpk hk (fun q' e' nq' ⟨lv',⟨dz,ha'⟩,hl'⟩=>⟨lv',⟨dz,s6 _ _ (k5 _ _ (s3 _ _ ha') nq' ?_)⟩,hl'.move tp⟩) ⟨.ref q,⟨dp,s6 _ _ p5⟩,tq⟩
   exact aX ha' hbo (by intro z;injection z with _ _ z;injection z with z;injection z with z;exact absurd z (by decide +kernel))
def tM (CB CP:Addr):Sp:=fun vs H Q _=>∃(b pw sh d:Addr) (sp ev le nn nt mo pl:Int) (ps:List Addr) (cs:List Pc) (k:Nat) (p:Addr) (c:Pc),vs=[.ref b,.int c.n,.int pl]/\eR CB CP H b pw sh d sp ev le nn nt mo ps cs/\ps[k]?=some p/\cs[k]?=some c/\(cs.map Pc.n).Nodup/\c.m<pl/\pl<c.h/\(c.lent=true->c.m+ev<=pl)/\Q (.ref p) H
def pQ (CB CP:Addr):Sp:=fun vs H Q _=>∃(b pw sh d:Addr) (sp ev le nn nt mo pl:Int) (ps:List Addr) (cs:List Pc) (k:Nat) (p:Addr) (c:Pc),vs=[.ref b,.ref p,.int pl]/\eR CB CP H b pw sh d sp ev le nn nt mo ps cs/\ps[k]?=some p/\cs[k]?=some c/\(cs.map Pc.n).Nodup/\(∀c ∈ cs,c.n<nn)/\cs.length<1000 /\
 ∀(q:Addr) (H':Hp),(∀a o,H a=some o->a≠b->a≠d->a≠p->H' a=some o)->eR CB CP H' b pw sh d sp ev le (nn+1) nt mo (ps++[q]) (cs.set k { c with h:=pl }++[⟨nn,pl,c.h,pl,none⟩])->Q (.ref q) H'
def oQ (CB CP:Addr):Sp:=fun vs H Q _=>∃(b pw sh d:Addr) (sp ev le nn nt mo pl:Int) (ps:List Addr) (cs:List Pc) (k:Nat) (p:Addr) (c:Pc),vs=[.ref b,.int c.n,.int pl]/\eR CB CP H b pw sh d sp ev le nn nt mo ps cs/\ps[k]?=some p/\cs[k]?=some c/\(cs.map Pc.n).Nodup/\c.m<pl/\pl<c.h/\(c.lent=true->c.m+ev<=pl)/\(∀c ∈ cs,c.n<nn)/\cs.length<1000 /\
 ∀(q:Addr) (H':Hp),(∀a o,H a=some o->a≠b->a≠d->a≠p->H' a=some o)->eR CB CP H' b pw sh d sp ev le (nn+1) nt mo (ps++[q]) (cs.set k { c with h:=pl }++[⟨nn,pl,c.h,pl,none⟩])->Q .non H'
theorem AaM:aP ["self","number","place","piece"] ["self","number","place"] (aH lO):=⟨rfl,rfl,rfl,by decide +kernel,rfl,by decide +kernel,by decide +kernel⟩
theorem AfH {f CB CP fP fW fL:Addr} {fd fdP fdW fdL:FuncData} (F:Fun K "piece_to_cut" "Book.piece_to_cut" lO f fd) (TB:Bl K mg CB) (TP:Pl K mg CP)
  (GP:aJ P w K mg base CX0 2 fP fdP ["self","number"] (tK CB CP)) (bP:aO K fdP ["self","number"] []) (mP:dE K CB "piece_with" fP)
  (GW:aJ P w K mg base CX0 1 fW fdW ["thing"] dS) (kW:keepIn K (.ref fW)=true) (bW:aO K fdW ["thing"] []) (mW:mg "is_whole"=some (.ref fW))
  (GL:aJ P w K mg base CX0 1 fL fdL ["self"] (kJ CP)) (bL:aO K fdL ["self"] []) (mL:dE K CP "is_lent" fL):
  aJ P w K mg base CX0 3 f fd ["self","number","place"] (tM CB CP):=by
 refine F.ok AaM (fun vs H Q E h=>?_) (fun cdv A outer s H vs Q E hr h=>?_)
 ·obtain⟨b,pw,sh,d,sp,ev,le,nn,nt,mo,pl,ps,cs,k,p,c,rfl,_⟩:=h
  rfl
 ·obtain⟨b,pw,sh,d,sp,ev,le,nn,nt,mo,pl,ps,cs,k,p,c,rfl,hb,hp,hc,nd,h1,h2,h3,t⟩:=h
  have hr2:Room 2 (A.deeper (PyProof.Rows.envOfC "Book.piece_to_cut" (aH lO) s.heap.objs.size f cdv)):=hr.mono (by decide)
  have hr1:Room 1 (A.deeper (PyProof.Rows.envOfC "Book.piece_to_cut" (aH lO) s.heap.objs.size f cdv)):=hr.mono (by decide)
  refine⟨_,aC (aU (i:=3) AaM.nd rfl (Or.inl rfl) (cU (pv 0) TB.cl mP GP hr2 bP .nil aN (aA (pv 1) aB)))
   (aC (cJ (PW.pt (gH (dA (cW (aL GW hr1 rfl mW kW bW .nil aN (aA (pv 2) aB)))) (eT (dA (lQ fX fX (aV (pv 3) rfl) (pv 2) (aV (pv 3) rfl)))))) cD bV)
   (aC (cJ (PW.pt (kR (cW (cM (pv 3) TP.cl mL GL hr1 bL .nil aN)) (iI (cB fX (pv 2) (bU dG (aV (pv 3) rfl) (aV (pv 0) rfl)) (bX _))))) cD bV)
   (aI (aY (pv 3))))),?_⟩
  obtain⟨⟨dx,hbo⟩,hdc,hpc⟩:=id hb
  obtain⟨c',hc',lv,⟨dp,hat⟩,hld⟩:=cA hpc hp
  rw [hc] at hc'
  cases hc'
  refine⟨_,rfl,b,dx,_,rfl,hbo,rfl,_,rfl,b,pw,sh,d,sp,ev,le,nn,nt,mo,ps,cs,k,p,c,rfl,hb,hp,hc,nd,?_⟩
  refine⟨_,rfl,_,rfl,.kn (.int _),_,rfl,dH ?_⟩
  refine⟨_,rfl,p,CP,dp,_,_,rfl,hat,TP.cl,TP.nM,rfl,_,rfl,_,_,rfl,rfl,_,rfl,gY (decide_eq_true h1) ⟨_,rfl,p,CP,dp,_,_,rfl,hat,TP.cl,TP.nH,rfl,_,_,rfl,rfl,_,rfl,eX (by rw [decide_eq_true h2];rfl) ?_⟩⟩
  refine⟨_,rfl,p,dp,_,rfl,hat,rfl,p,_,_,_,_,lv,rfl,⟨dp,hat⟩,_,rfl,?_⟩
  refine eF (fun hl=>?_) fun _=>dH ⟨_,rfl,t⟩
  have e:(!decide (lv=.non))=c.lent:=by
   rw [hld.non]
   unfold Pc.lent
   cases c.o <;> rfl
  rw [e] at hl
  refine⟨_,rfl,_,rfl,p,CP,dp,_,_,rfl,hat,TP.cl,TP.nM,rfl,_,rfl,b,CB,dx,_,_,rfl,hbo,TB.cl,TB.nE,rfl,_,_,rfl,rfl,_,_,rfl,rfl,_,rfl,?_⟩
  have:=h3 hl
  exact eF (fun z=>absurd (of_decide_eq_true z) (by omega)) fun _=>⟨_,rfl,t⟩
theorem vU:aP ["self","piece","place","other"] ["self","piece","place"] (aH lP):=⟨rfl,rfl,rfl,by decide +kernel,rfl,by decide +kernel,by decide +kernel⟩
theorem AcQ {f CB CP fN:Addr} {fd fdN:FuncData} (F:Fun K "cut_off" "Book.cut_off" lP f fd) (TB:Bl K mg CB) (TP:Pl K mg CP)
  (GN:aJ P w K mg base CX0 3 fN fdN ["self","low","high"] (AaG CB CP)) (bN:aO K fdN ["self","low","high"] []) (mN:dE K CB "new_piece" fN):
  aJ P w K mg base CX0 4 f fd ["self","piece","place"] (pQ CB CP):=by
 refine F.ok vU (fun vs H Q E h=>?_) (fun cdv A outer s H vs Q E hr h=>?_)
 ·obtain⟨b,pw,sh,d,sp,ev,le,nn,nt,mo,pl,ps,cs,k,p,c,rfl,_⟩:=h
  rfl
 ·obtain⟨b,pw,sh,d,sp,ev,le,nn,nt,mo,pl,ps,cs,k,p,c,rfl,hb,hp,hc,nd,lt,ln,t⟩:=h
  have hr3:Room 3 (A.deeper (PyProof.Rows.envOfC "Book.cut_off" (aH lP) s.heap.objs.size f cdv)):=hr.mono (by decide)
  refine⟨_,aC (aU (i:=3) vU.nd rfl (Or.inl rfl) (cU (pv 0) TB.cl mN GN hr3 bN .nil aN (aA (pv 2) (aA (aV (pv 1) rfl) aB))))
   (aC (dJ (pv 1) (pv 2) rfl) (aI (aY (pv 3)))),?_⟩
  obtain⟨⟨dx,hbo⟩,hdc,hpc⟩:=id hb
  obtain⟨c',hc',lv,⟨dp,hat⟩,hld⟩:=cA hpc hp
  rw [hc] at hc'
  cases hc'
  refine⟨_,rfl,b,dx,_,rfl,hbo,rfl,_,rfl,_,rfl,p,CP,dp,_,_,rfl,hat,TP.cl,TP.nH,rfl,b,pw,sh,d,sp,ev,le,nn,nt,mo,pl,c.h,ps,cs,rfl,hb,lt,ln,fun q H1 k1 nq hb1=>?_⟩
  have npb:p≠b:=aX hat hbo (by intro z;injection z with _ _ z;injection z with z;injection z with z;exact absurd z (by decide +kernel))
  have npd:p≠d:=aX hat hdc (by intro z;cases z)
  have hat1:=k1 _ _ hat npb npd
  refine⟨_,rfl,_,rfl,p,CP,dp,_,rfl,hat1,TP.cl,TP.nH,(by show 5<1000;decide),?_⟩
  rw [pf_high]
  obtain⟨⟨dx1,hbo1⟩,hdc1,hpc1⟩:=id hb1
  have lk:=(List.getElem?_eq_some_iff.mp hc).1
  have lkp:=(List.getElem?_eq_some_iff.mp hp).1
  have hp1:(ps++[q])[k]?=some p:=by rw [List.getElem?_append_left lkp];exact hp
  have hc1:(cs++[⟨nn,pl,c.h,pl,none⟩])[k]?=some c:=by rw [List.getElem?_append_left lk];exact hc
  have es:(cs++[(⟨nn,pl,c.h,pl,none⟩:Pc)]).set k { c with h:=pl }=cs.set k { c with h:=pl }++[⟨nn,pl,c.h,pl,none⟩]:=List.set_append_left _ _ lk
  have nd1:((cs++[(⟨nn,pl,c.h,pl,none⟩:Pc)]).map Pc.n).Nodup:=by
   rw [List.map_append,List.nodup_append]
   refine⟨nd,by simp,fun a ha b hb z=>?_⟩
   obtain⟨e,he,rfl⟩:=List.mem_map.mp ha
   simp only [List.map_cons,List.map_nil,List.mem_singleton] at hb
   have:=lt e he
   omega
  have kp:∀a o,a≠p->H1 a=some o->(upd H1 p (.ins CP dp (pf c.n c.l pl c.m lv))) a=some o:=fun a o n e=>by rw [aG n];exact e
  have tp:∀a ys,H1 a=some (.tup ys)->(upd H1 p (.ins CP dp (pf c.n c.l pl c.m lv))) a=some (.tup ys):=fun a ys e=>kp _ _ (aX e hat1 (by intro z;cases z)) e
  obtain⟨c2,hc2,lv2,⟨dp2,hat2⟩,hld2⟩:=cA hpc1 hp1
  rw [hc1] at hc2
  cases hc2
  rw [hat1] at hat2
  cases hat2
  have pn:=kU hpc1 nd1 hp1 hc1 (c':={ c with h:=pl }) (fun q' e' nq' ⟨lv',⟨dz,ha'⟩,hl'⟩=>⟨lv',⟨dz,kp _ _ nq' ha'⟩,hl'.move tp⟩) ⟨lv,⟨dp,aD⟩,hld2.move tp⟩
  refine⟨_,rfl,t q _ (fun a o e n1 n2 n3=>kp _ _ n3 (k1 _ _ e n1 n2)) ⟨⟨dx1,kp _ _ npb.symm hbo1⟩,?_,es ▸ pn⟩⟩
  rw [<- es,vA (c':={ c with h:=pl }) hc1 rfl]
  exact kp _ _ npd.symm hdc1
theorem scCut:aP ["self","number","place"] ["self","number","place"] (aH vX):=⟨rfl,rfl,rfl,by decide +kernel,rfl,by decide +kernel,by decide +kernel⟩
theorem ok_cut {f CB CP fO fT:Addr} {fd fdO fdT:FuncData} (F:Fun K "cut" "Book.cut" vX f fd) (TB:Bl K mg CB)
  (GT:aJ P w K mg base CX0 3 fT fdT ["self","number","place"] (tM CB CP)) (bT:aO K fdT ["self","number","place"] []) (mT:dE K CB "piece_to_cut" fT)
  (GO:aJ P w K mg base CX0 4 fO fdO ["self","piece","place"] (pQ CB CP)) (bO:aO K fdO ["self","piece","place"] []) (mO:dE K CB "cut_off" fO):
  aJ P w K mg base CX0 5 f fd ["self","number","place"] (oQ CB CP):=by
 refine F.ok scCut (fun vs H Q E h=>?_) (fun cdv A outer s H vs Q E hr h=>?_)
 ·obtain⟨b,pw,sh,d,sp,ev,le,nn,nt,mo,pl,ps,cs,k,p,c,rfl,_⟩:=h
  rfl
 ·obtain⟨b,pw,sh,d,sp,ev,le,nn,nt,mo,pl,ps,cs,k,p,c,rfl,hb,hp,hc,nd,h1,h2,h3,lt,ln,t⟩:=h
  have hr3:Room 3 (A.deeper (PyProof.Rows.envOfC "Book.cut" (aH vX) s.heap.objs.size f cdv)):=hr.mono (by decide)
  have hr4:Room 4 (A.deeper (PyProof.Rows.envOfC "Book.cut" (aH vX) s.heap.objs.size f cdv)):=hr.mono (by decide)
  refine⟨_,aI (cT (cU (pv 0) TB.cl mO GO hr4 bO .nil aN (aA (cU (pv 0) TB.cl mT GT hr3 bT .nil aN (aA (pv 1) (aA (pv 2) aB))) (aA (pv 2) aB)))),?_⟩
  obtain⟨dx,hbo⟩:=hb.ob
  exact⟨_,rfl,b,dx,_,rfl,hbo,rfl,_,rfl,b,dx,_,rfl,hbo,rfl,_,rfl,_,rfl,b,pw,sh,d,sp,ev,le,nn,nt,mo,pl,ps,cs,k,p,c,rfl,hb,hp,hc,nd,h1,h2,h3,_,rfl,b,pw,sh,d,sp,ev,le,nn,nt,mo,pl,ps,cs,k,p,c,rfl,hb,hp,hc,nd,lt,ln,fun q H' k1 hb1=>t q H' k1 hb1⟩
def gJ:List (Str × Int):=[("lent",5),("told",5),("back",3),("cut",3),("join",2)]
def lnB (w:Str) (n:Nat):Bool:=kdpHas gJ w && decide (kdpLook gJ w 0=(n:Int))
inductive LnV (H:Hp):V->Bool->Prop where
 | no {x:V} (h:Kn H x):LnV H x false
 | nil {a:Addr} (e:H a=some (.tup [])):LnV H (.ref a) false
 | odd {a:Addr} {x:V} {xs:List V} (e:H a=some (.tup (x::xs))) (k:Knd H x) (n:∀s,x≠.str s):LnV H (.ref a) false
 | tup {a:Addr} {w:Str} {xs:List V} (e:H a=some (.tup (.str w::xs))):LnV H (.ref a) (lnB w (xs.length+1))
theorem LnV.same {H H':Hp} {x:V} {b:Bool} (s:aR H H') (h:LnV H x b):LnV H' x b:=by
 cases h with
 | no h=>exact .no (h.same s)
 | nil e=>exact .nil (s _ _ e)
 | odd e k n=>exact .odd (s _ _ e) (k.same s) n
 | tup e=>exact .tup (s _ _ e)
theorem ans_str {K:Frag} {H:Hp} {x:V} (h:Knd H x) (n:∀s,x≠.str s):∃t,iP K H x t/\kitOne K t (.type "str")=some false:=by
 cases h with
 | kn h=>
  cases h with
  | non=>exact⟨_,.non,by kernel_rfl⟩
  | bl b=>exact⟨_,.bl b,by kernel_rfl⟩
  | int i=>exact⟨_,.int i,by kernel_rfl⟩
  | str x=>exact absurd rfl (n x)
  | lst q=>exact⟨_,.lst q,by kernel_rfl⟩
  | dK q=>exact⟨_,.dK q,by kernel_rfl⟩
 | tup q=>exact⟨_,.tup q,by kernel_rfl⟩
theorem AhQ {K:Frag} {H:Hp} {x:Str}:∃t,iP K H (.str x) t/\kitOne K t (.type "str")=some true:=⟨_,.str x,by kernel_rfl⟩
structure Lb (K:PySem.W.Frag) (mg:Str->Option Value) (CL:Addr):Prop where
 mB:mg "BadLine"=some (.ref CL)
 ex:ExcIs K CL
def hU (CL:Addr):Sp:=fun vs H Q E=>∃(x:V) (b:Bool),vs=[x]/\LnV H x b/\(b=true->Q .non H)/\(b=false->E (.ref CL) none H)
theorem AeJ:aP ["line"] ["line"] (aH kQ):=⟨rfl,rfl,rfl,by decide +kernel,rfl,by decide +kernel,by decide +kernel⟩
theorem AcS {f CL d:Addr} {fd:FuncData} (F:Fun K "check_line" "check_line" kQ f fd) (G:Gb mg) (hs:mg "str"=none) (T:TabK P w K d gJ) (mT:mg "PARTS"=some (.ref d)) (TX:Lb K mg CL):
  aJ P w K mg base (CXE P w) 1 f fd ["line"] (hU CL):=by
 refine F.okE AeJ (fun vs H Q E h=>?_) (fun cdv A outer s H vs Q E hr h=>?_)
 ·obtain⟨x,b,rfl,_⟩:=h
  rfl
 ·obtain⟨x,b,rfl,hx,q1,q2⟩:=h
  refine⟨_,aC (cJ (PW.pt (gH (dA (cW (aS aW (by rfl) G.isi cH (aA (pv 0) (aA (gC (v:=.ty "tuple") (by rfl) G.tuple gZ rfl) aB)))))
    (gH (dA (hX (pv 0) (fun _=>rfl))) (eT (dA (cW (aS aW (by rfl) G.isi cH (aA (bJ bQ (pv 0) aE (fun _ _=>rfl)) (aA (gC (v:=.ty "str") (by rfl) hs xG rfl) aB)))))))))
    (aI (qI rfl TX.ex rfl TX.mB jB (aA aZ aB))) bV)
   (aI (cJ (cB AaY (pe_tget T rfl mT (bJ bQ (pv 0) aE (fun _ _=>rfl)) (by constructor <;> rfl)) (aS cR (by rfl) G.len PySem.boot_len (aA (pv 0) aB)) (bX _))
    (aI (qI rfl TX.ex rfl TX.mB jB (aA aZ aB))) bV)),?_⟩
  cases hx with
  | no h=>
   obtain⟨t,ty,e⟩:=rM (K:=K) h
   exact⟨_,rfl,_,_,_,_,rfl,.ty "tuple",.inl ⟨t,ty,e⟩,_,rfl,eP (eP ⟨by show 1<=sizeLine;decide,q2 rfl⟩)⟩
  | @nil a e1=>
   obtain⟨t,ty,e⟩:=iD (K:=K) e1
   exact⟨_,rfl,_,_,_,_,rfl,.ty "tuple",.inl ⟨t,ty,e⟩,_,rfl,dH ⟨_,rfl,false,.inr (.inl ⟨_,SqT.of e1,rfl⟩),eP (eP ⟨by show 1<=sizeLine;decide,q2 rfl⟩)⟩⟩
  | @odd a x xs e1 k n=>
   obtain⟨t,ty,e⟩:=iD (K:=K) e1
   obtain⟨t',ty',e'⟩:=ans_str (K:=K) k n
   exact⟨_,rfl,_,_,_,_,rfl,.ty "tuple",.inl ⟨t,ty,e⟩,_,rfl,dH ⟨_,rfl,true,.inr (.inl ⟨_,SqT.of e1,rfl⟩),dH ⟨_,rfl,a,_,_,_,rfl,rfl,SqT.of e1,aM (j:=0) rfl,_,_,_,_,rfl,.ty "str",.inl ⟨t',ty',e'⟩,_,rfl,eP ⟨by show 1<=sizeLine;decide,q2 rfl⟩⟩⟩⟩
  | @tup a w xs e1=>
   obtain⟨t,ty,e⟩:=iD (K:=K) e1
   obtain⟨t',ty',e'⟩:=AhQ (K:=K) (H:=H) (x:=w)
   refine⟨_,rfl,_,_,_,_,rfl,.ty "tuple",.inl ⟨t,ty,e⟩,_,rfl,dH ⟨_,rfl,true,.inr (.inl ⟨_,SqT.of e1,rfl⟩),dH ⟨_,rfl,a,_,_,_,rfl,rfl,SqT.of e1,aM (j:=0) rfl,_,_,_,_,rfl,.ty "str",.inl ⟨t',ty',e'⟩,_,rfl,dH ?_⟩⟩⟩
   refine⟨_,rfl,a,_,_,_,rfl,rfl,SqT.of e1,aM (j:=0) rfl,w,rfl,fun hk=>?_,fun hk=>?_⟩
   ·refine⟨_,rfl,a,_,rfl,.inr (SqT.of e1),rfl,_,rfl,?_⟩
    refine eF (fun hc=>⟨by show 1<=sizeLine;decide,q2 ?_⟩) fun hc=>q1 ?_
    ·unfold lnB
     rw [hk,Bool.true_and]
     refine decide_eq_false fun z=>?_
     rw [z] at hc
     simp at hc
    ·unfold lnB
     rw [hk,Bool.true_and]
     refine decide_eq_true ?_
     by_cases z:kdpLook gJ w 0=((xs.length+1:Nat):Int)
     ·exact z
     ·refine absurd ?_ hc
      have:decide (V.int (kdpLook gJ w 0)=V.int ((V.str w::xs).length:Int))=false:=decide_eq_false fun y=>z (by injection y)
      rw [this]
      rfl
   ·refine⟨_,rfl,a,_,rfl,.inr (SqT.of e1),rfl,_,rfl,?_⟩
    exact eP ⟨by show 1<=sizeLine;decide,q2 (by unfold lnB;rw [hk];rfl)⟩
def fU (CB CP T:Addr):Sp:=fun vs H Q _=>∃(b a pw sh d:Addr) (sp ev le nn nt mo i n:Int) (x:Str) (ps:List Addr) (cs:List Pc),vs=[.ref b,.ref a]/\H a=some (.tup [.str "lent",.int i,.str x,.int nt,.int n])/\eR CB CP H b pw sh d sp ev le nn nt mo ps cs/\cs.length<=1000/\(cs.map Pc.n).Nodup/\lX x/\mo<=i/\Tab H T oK iB/\Pk cs i/\(∀c,ChP cs i c->c.n=n) /\
 ∀(k:Nat) (p:Addr) (c:Pc) (H':Hp),ps[k]?=some p->cs[k]?=some c->ChP cs i c->(∀a o,H a=some o->a≠b->a≠p->a≠T->H' a=some o)->Tab H' T oK iB ->
  eR CB CP H' b pw sh d sp ev le nn (nt+1) i ps (cs.set k { c with o:=some (nt,x,i+sp) })->Q .non H'
theorem lM:aP ["book","line","moment","worker","coming"] ["book","line"] (aH oU):=⟨rfl,rfl,rfl,by decide +kernel,rfl,by decide +kernel,by decide +kernel⟩
theorem AcP {f CB CP T fK fC fW fL:Addr} {fd fdK fdC fdW fdL:FuncData} (F:Fun K "do_lent" "do_lent" oU f fd) (TB:Bl K mg CB)
  (GK:aJ P w K mg base CX0 2 fK fdK ["worker"] iF) (kK:keepIn K (.ref fK)=true) (bK:aO K fdK ["worker"] []) (mK:mg "check_worker"=some (.ref fK))
  (GC:aJ P w K mg base CX0 6 fC fdC ["self","moment"] (mQ CB CP T)) (bC:aO K fdC ["self","moment"] []) (mC:dE K CB "coming" fC)
  (GW:aJ P w K mg base CX0 1 fW fdW ["thing"] dS) (kW:keepIn K (.ref fW)=true) (bW:aO K fdW ["thing"] []) (mW:mg "is_whole"=some (.ref fW))
  (GL:aJ P w K mg base CX0 6 fL fdL ["self","worker","moment"] (tT CB CP T)) (bL:aO K fdL ["self","worker","moment"] []) (mL:dE K CB "lend" fL):
  aJ P w K mg base CX0 7 f fd ["book","line"] (fU CB CP T):=by
 refine F.ok lM (fun vs H Q E h=>?_) (fun cdv A outer s H vs Q E hr h=>?_)
 ·obtain⟨b,a,pw,sh,d,sp,ev,le,nn,nt,mo,i,n,x,ps,cs,rfl,_⟩:=h
  rfl
 ·obtain⟨b,a,pw,sh,d,sp,ev,le,nn,nt,mo,i,n,x,ps,cs,rfl,ha,hb,lc,nd,wx,hi,tb,ex,un,t⟩:=h
  have rm:∀{k},k<=6->Room k (A.deeper (PyProof.Rows.envOfC "do_lent" (aH oU) s.heap.objs.size f cdv)):=fun h=>hr.mono h
  refine⟨_,aC (aU (i:=2) lM.nd rfl (Or.inl rfl) (bJ bQ (pv 1) aE (fun _ _=>rfl)))
   (aC (aU (i:=3) lM.nd rfl (Or.inl rfl) (bJ bQ (pv 1) aE (fun _ _=>rfl)))
   (aC (cT (aL GK (rm (by decide)) rfl mK kK bK .nil aN (aA (pv 3) aB)))
   (aC (aU (i:=4) lM.nd rfl (Or.inl rfl) (cU (pv 0) TB.cl mC GC (rm (by decide)) bC .nil aN (aA (pv 2) aB)))
   (aC (cJ (cB qO (pv 4) dX (bX _)) cD bV)
   (aC (cJ (PW.pt (gH (dA (cW (aL GW (rm (by decide)) rfl mW kW bW .nil aN (aA (bJ bQ (pv 1) aE (fun _ _=>rfl)) aB))))
     (gH (dA (cW (aL GW (rm (by decide)) rfl mW kW bW .nil aN (aA (bJ bQ (pv 1) aE (fun _ _=>rfl)) aB))))
     (eT (cB (qN hr.units) (cC (aA (bJ bQ (pv 1) aE (fun _ _=>rfl)) (aA (bJ bQ (pv 1) aE (fun _ _=>rfl)) aB))) (pv 4) (bX _)))))) cD bV)
   (aI (cT (cU (pv 0) TB.cl mL GL (rm (by decide)) bL .nil aN (aA (pv 3) (aA (pv 2) aB)))))))))),?_⟩
  refine⟨_,rfl,a,_,_,_,rfl,rfl,SqT.of ha,aM (j:=1) rfl,?_⟩
  refine⟨_,rfl,a,_,_,_,rfl,rfl,SqT.of ha,aM (j:=2) rfl,?_⟩
  refine⟨_,rfl,x,rfl,wx,fun H1 s1=>?_⟩
  have hb1:=hb.sameT (aR.toT s1)
  obtain⟨dx,hbo1⟩:=hb1.ob
  have tb1:=tb.same s1
  refine⟨_,rfl,b,dx,_,rfl,hbo1,rfl,_,rfl,b,pw,sh,d,sp,ev,le,nn,nt,mo,i,ps,cs,rfl,hb1,lc,hi,tb1,ex,fun c r H2 ch kt tb2 e2=>?_⟩
  have st:=cQ.t tb1 kt
  have ha2:=st.at (s1 _ _ ha)
  refine⟨_,rfl,rfl,_,rfl,dH ?_⟩
  refine⟨_,rfl,a,_,_,_,rfl,rfl,SqT.of ha2,aM (j:=3) rfl,_,rfl,.kn (.int _),_,rfl,dH ?_⟩
  refine⟨_,rfl,a,_,_,_,rfl,rfl,SqT.of ha2,aM (j:=4) rfl,_,rfl,.kn (.int _),_,rfl,dH ?_⟩
  refine⟨_,rfl,a,_,_,_,rfl,rfl,SqT.of ha2,aM (j:=3) rfl,_,rfl,a,_,_,_,rfl,rfl,SqT.of ha2,aM (j:=4) rfl,by show 2<=sizeLine;decide,fun q nq=>?_⟩
  have s3:aR H2 (upd H2 q (.tup [.int nt,.int n])):=aK nq
  have e3:(upd H2 q (.tup [.int nt,.int n])) q=some (.tup [.int nt,.int n]):=aD
  generalize upd H2 q (.tup [.int nt,.int n])=H3 at s3 e3 ⊢
  have hb3:=(hb1.sameT st).sameT (aR.toT s3)
  obtain⟨dx3,hbo3⟩:=hb3.ob
  have en:=un c ch
  subst en
  refine⟨_,rfl,_,_,.tup (SqT.of e3) (.cons (.int _) (.cons (.int _) .nil)),.tup (SqT.of (s3 _ _ e2)) (.cons (.int _) (.cons (.int _) .nil)),?_,?_,_,rfl,eX (congrArg Bool.not (AgX (nt,c.n))) ?_⟩
  ·exact(Gd.pair (nt,c.n)).shaped (by decide)
  ·exact(Gd.pair (nt,c.n)).shaped (by decide)
  refine⟨_,rfl,b,dx3,_,rfl,hbo3,rfl,_,rfl,_,rfl,b,pw,sh,d,sp,ev,le,nn,nt,mo,i,x,ps,cs,rfl,hb3,lc,nd,wx,hi,tb2.same s3,ex,fun k p c' r' H' hp hc ch' kp tb' hb' _=>?_⟩
  exact t k p c' H' hp hc ch' (fun z o e n1 n2 n3=>kp z o (s3 _ _ (kt _ _ n3 (s1 _ _ e))) n1 n2 n3) tb' hb'
theorem ln_lent:lnB "lent" 5=true:=by decide +kernel
theorem ln_told:lnB "told" 5=true:=by decide +kernel
theorem ln_cut:lnB "cut" 3=true:=by decide +kernel
theorem tf {b:Bool} (h:b=true) {p:Prop}:b=false->p:=fun z=>by rw [h] at z;cases z
def tS (CL:Addr):Sp:=fun vs H Q E=>∃b x,vs=[b,x]/\LnV H x false/\E (.ref CL) none H
def lG (CB CS CP:Addr):Sp:=fun vs H Q E=>∃(b a nr:Addr) (i tk pl:Int),vs=[.ref b,.ref a]/\H a=some (.tup [.str "told",.int i,.int tk,.int pl,.ref nr])/\(∃dx fs,H b=some (.ins CB dx fs)/\fs.lookup ("tell":Str)=none)/\pM CB CS CP [.ref b,.int tk,.int pl,.ref nr,.int i] H (fun _ H'=>Q .non H') E0
def jK (CB CP:Addr):Sp:=fun vs H Q E=>∃(b a:Addr) (n pl:Int),vs=[.ref b,.ref a]/\H a=some (.tup [.str "cut",.int n,.int pl])/\(∃dx fs,H b=some (.ins CB dx fs)/\fs.lookup ("cut":Str)=none)/\oQ CB CP [.ref b,.int n,.int pl] H (fun _ H'=>Q .non H') E0
theorem gF:aP ["book","line","word"] ["book","line"] (aH jO):=⟨rfl,rfl,rfl,by decide +kernel,rfl,by decide +kernel,by decide +kernel⟩
theorem AfP {f CL fK:Addr} {fd fdK:FuncData} (F:Fun K "do_line" "do_line" jO f fd)
  (GK:aJ P w K mg base (CXE P w) 1 fK fdK ["line"] (hU CL)) (kK:keepIn K (.ref fK)=true) (bK:aO K fdK ["line"] []) (mK:mg "check_line"=some (.ref fK)):
  aJ P w K mg base (CXE P w) 2 f fd ["book","line"] (tS CL):=by
 refine F.okE gF (fun vs H Q E h=>?_) (fun cdv A outer s H vs Q E hr h=>?_)
 ·obtain⟨b,x,rfl,_⟩:=h
  rfl
 ·obtain⟨b,x,rfl,hx,q⟩:=h
  refine⟨_,aC (cT (aL GK hr rfl mK kK bK .nil (AcK (E':=E) fun _ _ _ z=>z) (aA (pv 1) aB))) cD,?_⟩
  exact⟨_,rfl,x,false,rfl,hx,(fun z=>by cases z),fun _=>q⟩
theorem AfO {f CB CP CL T fK fL:Addr} {fd fdK fdL:FuncData} (F:Fun K "do_line" "do_line" jO f fd)
  (GK:aJ P w K mg base (CXE P w) 1 fK fdK ["line"] (hU CL)) (kK:keepIn K (.ref fK)=true) (bK:aO K fdK ["line"] []) (mK:mg "check_line"=some (.ref fK))
  (GL:aJ P w K mg base CX0 7 fL fdL ["book","line"] (fU CB CP T)) (kL:keepIn K (.ref fL)=true) (bL:aO K fdL ["book","line"] []) (mL:mg "do_lent"=some (.ref fL)):
  aJ P w K mg base CX0 8 f fd ["book","line"] (fU CB CP T):=by
 refine F.ok gF (fun vs H Q E h=>?_) (fun cdv A outer s H vs Q E hr h=>?_)
 ·obtain⟨b,a,pw,sh,d,sp,ev,le,nn,nt,mo,i,n,x,ps,cs,rfl,_⟩:=h
  rfl
 ·obtain⟨b,a,pw,sh,d,sp,ev,le,nn,nt,mo,i,n,x,ps,cs,rfl,ha,h⟩:=h
  refine⟨_,aC (cT (aL GK (hr.mono (by decide)) rfl mK kK bK .nil AaX (aA (pv 1) aB)))
   (aC (aU (i:=2) gF.nd rfl (Or.inl rfl) (bJ bQ (pv 1) aE (fun _ _=>rfl)))
   (aI (cJ (cB gO (pv 2) aZ (bX _)) (aI (cT (aL GL hr rfl mL kL bL .nil aN (aA (pv 0) (aA (pv 1) aB))))) cD))),?_⟩
  refine⟨_,rfl,_,_,rfl,.tup ha,fun _=>?_,tf ln_lent⟩
  refine⟨_,rfl,a,_,_,_,rfl,rfl,SqT.of ha,aM (j:=0) rfl,?_⟩
  refine⟨_,rfl,rfl,_,rfl,gY (decide_eq_true rfl) ?_⟩
  exact⟨_,rfl,_,rfl,b,a,pw,sh,d,sp,ev,le,nn,nt,mo,i,n,x,ps,cs,rfl,ha,h⟩
theorem AfN {f CB CS CP CL fK fT:Addr} {fd fdK fdT:FuncData} (F:Fun K "do_line" "do_line" jO f fd) (TB:Bl K mg CB)
  (GK:aJ P w K mg base (CXE P w) 1 fK fdK ["line"] (hU CL)) (kK:keepIn K (.ref fK)=true) (bK:aO K fdK ["line"] []) (mK:mg "check_line"=some (.ref fK))
  (GT:aJ P w K mg base CX0 5 fT fdT ["self","token","place","numbers","moment"] (pM CB CS CP)) (bT:aO K fdT ["self","token","place","numbers","moment"] []) (mT:dE K CB "tell" fT):
  aJ P w K mg base CX0 8 f fd ["book","line"] (lG CB CS CP):=by
 refine F.ok gF (fun vs H Q E h=>?_) (fun cdv A outer s H vs Q E hr h=>?_)
 ·obtain⟨b,a,nr,i,tk,pl,rfl,_⟩:=h
  rfl
 ·obtain⟨b,a,nr,i,tk,pl,rfl,ha,⟨dx,fs,hb,nl⟩,h⟩:=h
  refine⟨_,aC (cT (aL GK (hr.mono (by decide)) rfl mK kK bK .nil AaX (aA (pv 1) aB)))
   (aC (aU (i:=2) gF.nd rfl (Or.inl rfl) (bJ bQ (pv 1) aE (fun _ _=>rfl)))
   (aI (cJ (cB gO (pv 2) aZ (bX _)) cD (aI (cJ (cB gO (pv 2) aZ (bX _)) (aI (cT (cU (pv 0) TB.cl mT GT (hr.mono (by decide)) bT .nil aN
    (aA (bJ bQ (pv 1) aE (fun _ _=>rfl)) (aA (bJ bQ (pv 1) aE (fun _ _=>rfl)) (aA (bJ bQ (pv 1) aE (fun _ _=>rfl)) (aA (bJ bQ (pv 1) aE (fun _ _=>rfl)) aB))))))) cD))))),?_⟩
  refine⟨_,rfl,_,_,rfl,.tup ha,fun _=>?_,tf ln_told⟩
  refine⟨_,rfl,a,_,_,_,rfl,rfl,SqT.of ha,aM (j:=0) rfl,?_⟩
  refine⟨_,rfl,rfl,_,rfl,eX (by decide +kernel) ?_⟩
  refine⟨_,rfl,rfl,_,rfl,gY (decide_eq_true rfl) ?_⟩
  exact⟨_,rfl,b,dx,fs,rfl,hb,nl,_,rfl,a,_,_,_,rfl,rfl,SqT.of ha,aM (j:=2) rfl,_,rfl,a,_,_,_,rfl,rfl,SqT.of ha,aM (j:=3) rfl,_,rfl,a,_,_,_,rfl,rfl,SqT.of ha,aM (j:=4) rfl,_,rfl,a,_,_,_,rfl,rfl,SqT.of ha,aM (j:=1) rfl,h⟩
theorem AfQ {f CB CP CL fK fC:Addr} {fd fdK fdC:FuncData} (F:Fun K "do_line" "do_line" jO f fd) (TB:Bl K mg CB)
  (GK:aJ P w K mg base (CXE P w) 1 fK fdK ["line"] (hU CL)) (kK:keepIn K (.ref fK)=true) (bK:aO K fdK ["line"] []) (mK:mg "check_line"=some (.ref fK))
  (GC:aJ P w K mg base CX0 5 fC fdC ["self","number","place"] (oQ CB CP)) (bC:aO K fdC ["self","number","place"] []) (mC:dE K CB "cut" fC):
  aJ P w K mg base CX0 8 f fd ["book","line"] (jK CB CP):=by
 refine F.ok gF (fun vs H Q E h=>?_) (fun cdv A outer s H vs Q E hr h=>?_)
 ·obtain⟨b,a,n,pl,rfl,_⟩:=h
  rfl
 ·obtain⟨b,a,n,pl,rfl,ha,⟨dx,fs,hb,nl⟩,h⟩:=h
  refine⟨_,aC (cT (aL GK (hr.mono (by decide)) rfl mK kK bK .nil AaX (aA (pv 1) aB)))
   (aC (aU (i:=2) gF.nd rfl (Or.inl rfl) (bJ bQ (pv 1) aE (fun _ _=>rfl)))
   (aI (cJ (cB gO (pv 2) aZ (bX _)) cD (aI (cJ (cB gO (pv 2) aZ (bX _)) cD (aI (cJ (cB gO (pv 2) aZ (bX _)) cD (aI (cJ (cB gO (pv 2) aZ (bX _)) (aI (cT (cU (pv 0) TB.cl mC GC (hr.mono (by decide)) bC .nil aN
    (aA (bJ bQ (pv 1) aE (fun _ _=>rfl)) (aA (bJ bQ (pv 1) aE (fun _ _=>rfl)) aB))))) cD))))))))),?_⟩
  refine⟨_,rfl,_,_,rfl,.tup ha,fun _=>?_,tf ln_cut⟩
  refine⟨_,rfl,a,_,_,_,rfl,rfl,SqT.of ha,aM (j:=0) rfl,?_⟩
  refine⟨_,rfl,rfl,_,rfl,eX (by decide +kernel) ?_⟩
  refine⟨_,rfl,rfl,_,rfl,eX (by decide +kernel) ?_⟩
  refine⟨_,rfl,rfl,_,rfl,eX (by decide +kernel) ?_⟩
  refine⟨_,rfl,rfl,_,rfl,gY (decide_eq_true rfl) ?_⟩
  exact⟨_,rfl,b,dx,fs,rfl,hb,nl,_,rfl,a,_,_,_,rfl,rfl,SqT.of ha,aM (j:=1) rfl,_,rfl,a,_,_,_,rfl,rfl,SqT.of ha,aM (j:=2) rfl,h⟩
def Wl (H:Hp) (w:Addr):Prop:=∃a b c:Int,H w=some (.lst [.int a,.int b,.int c])
structure Kp (w:Addr) (H H':Hp):Prop where
 at_:∀x o,x≠w->H x=some o->H' x=some o
 wl:Wl H' w
theorem Kp.refl {w:Addr} {H:Hp} (h:Wl H w):Kp w H H:=⟨fun _ _ _ e=>e,h⟩
theorem Kp.trans {w:Addr} {H H1 H2:Hp} (a:Kp w H H1) (b:Kp w H1 H2):Kp w H H2:=⟨fun x o n e=>b.at_ x o n (a.at_ x o n e),b.wl⟩
theorem Wl.ne {w p:Addr} {H:Hp} (h:Wl H w) (n:H p=none):w≠p:=by
 obtain⟨a,b,c,e⟩:=h
 exact aF e n
theorem Wl.same {w:Addr} {H H':Hp} (h:Wl H w) (e:aR H H'):Wl H' w:=by
 obtain⟨a,b,c,z⟩:=h
 exact⟨a,b,c,e _ _ z⟩
theorem Kp.same {w:Addr} {H H1 H2:Hp} (a:Kp w H H1) (e:aR H1 H2):Kp w H H2:=⟨fun x o n z=>e _ _ (a.at_ x o n z),a.wl.same e⟩
theorem Kp.tup {w x:Addr} {H H':Hp} {xs:List V} (k:Kp w H H') (hw:Wl H w) (e:H x=some (.tup xs)):H' x=some (.tup xs):=by
 obtain⟨a,b,c,z⟩:=hw
 exact k.at_ x _ (aX e z (by intro q;cases q)) e
def tL (K:Frag):Sp:=fun vs H Q _=>∃(a:Addr) (ns:List Int) (k:Nat),vs=[.ref a,.int k]/\SqL K H a (ns.map V.int)/\ns.length<=63/\∀w H',aR H H'->H w=none->Wl H' w->Q (.ref w) H'
def mJ:Sp:=fun vs H Q _=>∃(w:Addr) (m:Int),vs=[.ref w,.int m]/\Wl H w/\0<m/\m<2 ^ 64/\∀r H',Kp w H H'->0<=r->r<m->Q (.int r) H'
theorem pick {ns:List Int} {i:Int} (h0:0<=i) (h1:i<ns.length):∃z,z ∈ ns/\atI (ns.map V.int) i=some (.int z):=by
 obtain⟨k,rfl⟩:=Int.eq_ofNat_of_zero_le h0
 have hk:k<ns.length:=by omega
 exact⟨ns[k],List.getElem_mem hk,aM (by rw [List.getElem?_map,List.getElem?_eq_getElem hk];rfl)⟩
theorem pick2 (x y:Int) (b:Bool):∃z,atI [V.int x,V.int y] (if b=true then 1 else 0)=some (V.int z):=by
 cases b
 ·exact⟨x,aM (j:=0) rfl⟩
 ·exact⟨y,aM (j:=1) rfl⟩
theorem yF:aP ["_law_script","_law_k","_law_cell"] ["_law_script","_law_k"] (aH sWell):=⟨rfl,rfl,rfl,by decide +kernel,rfl,by decide +kernel,by decide +kernel⟩
theorem ok_well {f:Addr} {fd:FuncData} (F:Fun K "_law_well" "_law_well" sWell f fd) (G:Gb mg):aJ P w K mg base CX0 1 f fd ["_law_script","_law_k"] (tL K):=by
 refine F.ok yF (fun vs H Q E h=>?_) (fun cdv A outer s H vs Q E hr h=>?_)
 ·obtain⟨a,ns,k,rfl,_⟩:=h
  rfl
 ·obtain⟨a,ns,k,rfl,hS,hl,q⟩:=h
  refine⟨_,aC (aU (i:=2) yF.nd rfl (Or.inl rfl) aE)
   (aC (cJ (cB fX (pv 1) (aS cR (by rfl) G.len PySem.boot_len (aA (pv 0) aB)) (bX _)) (aI (aU (i:=2) yF.nd rfl (Or.inl rfl) (bJ cV (pv 0) (pv 1) (fun _ _=>rfl)))) bV)
   (aI (aY (cN (aA (bU dG (bU nF (pv 2) aE) (bU kY aE (pv 1))) (aA (bJ cV (cN (aA aE (aA (pv 2) aB))) (dU nX (by rfl) G.int vF (aA (eJ op_ge (pv 2) (bU qM aE aE) (bX _)) aB)) (fun _ _=>rfl)) (aA aE aB))))))),?_⟩
  refine⟨_,rfl,_,rfl,a,_,rfl,.inl hS,_,_,rfl,rfl,_,rfl,?_⟩
  have pw18:CPow 10 18:=⟨by decide,by decide,by decide⟩
  have hk:∀(hc:decide ((k:Int)<((ns.map V.int).length:Int))=true),k<ns.length:=fun hc=>by
   have:=of_decide_eq_true hc
   rw [List.length_map] at this
   omega
  refine eF (fun hc=>⟨_,rfl,_,rfl,a,_,_,_,rfl,rfl,hS,aM (j:=k) (v:=V.int (ns[k]'(hk hc))) (by rw [List.getElem?_map,List.getElem?_eq_getElem (hk hc)];rfl),?_⟩) (fun hc=>?_)
  all_goals
   refine⟨_,rfl,_,_,rfl,rfl,(by show (0:Int)<2147483647;decide),_,rfl,_,_,rfl,rfl,.inl ⟨by decide,by decide⟩,_,_,rfl,rfl,?_⟩
   refine⟨_,rfl,by show 2<=sizeLine;decide,fun l1 h1=>?_⟩
   refine⟨_,rfl,_,_,rfl,rfl,pw18,_,_,rfl,rfl,.inr ⟨_,rfl,?_⟩⟩
   exact⟨l1,_,_,_,rfl,rfl,SqL.of aD,(pick2 _ _ _).choose_spec,by show 3<=sizeLine;decide,fun l2 h2=>q l2 _ ((aK h1).trans (aK h2)) ((aK h1).free h2) ⟨_,_,_,aD⟩⟩
theorem uD:aP ["_law_well_here","_law_most","_law_number"] ["_law_well_here","_law_most"] (aH sDraw):=⟨rfl,rfl,rfl,by decide +kernel,rfl,by decide +kernel,by decide +kernel⟩
theorem ok_draw {f:Addr} {fd:FuncData} (F:Fun K "_law_draw" "_law_draw" sDraw f fd):aJ P w K mg base CX0 1 f fd ["_law_well_here","_law_most"] mJ:=by
 refine F.ok uD (fun vs H Q E h=>?_) (fun cdv A outer s H vs Q E hr h=>?_)
 ·obtain⟨w',m,rfl,_⟩:=h
  rfl
 ·obtain⟨w',m,rfl,⟨a,b,c,hw⟩,m0,m1,q⟩:=h
  refine⟨_,aC (cJ (cB AaZ (bJ cV (pv 0) aE (fun _ _=>rfl)) aE (bX _))
    (aC (aU (i:=2) uD.nd rfl (Or.inl rfl) (bU nF (bJ cV (pv 0) aE (fun _ _=>rfl)) (pv 1)))
    (aC (yY (bU AfG (bJ cV (pv 0) aE (fun _ _=>rfl)) (pv 1)) (zA (pv 0) aE pW))
    (aI (aY (pv 2))))) bV)
   (aC (yY (bU dG (bJ cV (pv 0) aE (fun _ _=>rfl)) aE) (zA (pv 0) aE pW))
   (aC (aU (i:=2) uD.nd rfl (Or.inl rfl) (bU nF (bU kY (bU dG (bU dG (bJ cV (pv 0) aE (fun _ _=>rfl)) (bU kY aE (bJ cV (pv 0) aE (fun _ _=>rfl)))) aE) aE) aE))
   (aC (aU (i:=2) uD.nd rfl (Or.inl rfl) (bU nF (bU kY (pv 2) (bU dG (bU uV (pv 2) aE) aE)) aE))
   (aI (aY (bU nF (bU nF (bU kY (pv 2) (bU dG (bU uV (pv 2) aE) aE)) aE) (pv 1))))))),?_⟩
  have keep:∀(o:HO) (x:Addr) (u:HO),x≠w'->H x=some u->(upd H w' o) x=some u:=fun o x u n e=>by
   rw [aG n]
   exact e
  have rm:∀z:Int,0<=z % m/\z % m<m:=fun z=>⟨Int.emod_nonneg _ (by omega),Int.emod_lt_of_pos _ m0⟩
  refine⟨_,rfl,w',_,_,_,rfl,rfl,SqL.of hw,aM (j:=1) rfl,_,_,rfl,rfl,_,rfl,?_⟩
  refine eF (fun hc=>?_) (fun hc=>?_)
  ·refine⟨_,rfl,w',_,_,_,rfl,rfl,SqL.of hw,aM (j:=1) rfl,_,rfl,_,_,rfl,rfl,m0,?_⟩
   refine⟨_,rfl,w',_,_,_,rfl,rfl,SqL.of hw,aM (j:=1) rfl,_,rfl,_,_,rfl,rfl,⟨m0,m1⟩,?_⟩
   refine⟨_,rfl,w',_,_,_,rfl,rfl,hw,rfl,?_⟩
   exact⟨_,rfl,q _ _ ⟨keep _,⟨_,_,_,aD⟩⟩ (rm _).1 (rm _).2⟩
  ·refine⟨_,rfl,w',_,_,_,rfl,rfl,SqL.of hw,aM (j:=2) rfl,_,_,rfl,rfl,?_⟩
   refine⟨_,rfl,w',_,_,2,rfl,rfl,hw,rfl,?_⟩
   have hw2:(upd H w' (.lst ([V.int a,.int b,.int c].set 2 (.int (c+1))))) w'=some (.lst [.int a,.int b,.int (c+1)]):=aD
   have kp:Kp w' H (upd H w' (.lst ([V.int a,.int b,.int c].set 2 (.int (c+1))))):=⟨keep _,⟨_,_,_,hw2⟩⟩
   refine⟨_,rfl,w',_,_,_,rfl,rfl,SqL.of hw2,aM (j:=0) rfl,_,rfl,w',_,_,_,rfl,rfl,SqL.of hw2,aM (j:=2) rfl,_,_,rfl,rfl,.inl ⟨by decide,by decide⟩,_,_,rfl,rfl,_,_,rfl,rfl,_,_,rfl,rfl,.inr ⟨by decide,by decide⟩,_,_,rfl,rfl,(by show (0:Int)<2147483647;decide),?_⟩
   have n1:0<=(a+7919 * (c+1)+1) * 48271 % 2147483647/\(a+7919 * (c+1)+1) * 48271 % 2147483647<2147483647:=by omega
   generalize (a+7919 * (c+1)+1) * 48271 % 2147483647=x1 at n1 ⊢
   refine⟨_,rfl,_,rfl,_,_,rfl,rfl,⟨by decide,by decide⟩,_,_,rfl,rfl,_,_,rfl,rfl,.inl ⟨by omega,by omega⟩,_,_,rfl,rfl,(by show (0:Int)<2147483647;decide),?_⟩
   have n2:0<=x1 * (x1 / 1009+69621) % 2147483647/\x1 * (x1 / 1009+69621) % 2147483647<2147483647:=⟨Int.emod_nonneg _ (by decide),Int.emod_lt_of_pos _ (by decide)⟩
   generalize x1 * (x1 / 1009+69621) % 2147483647=x2 at n2 ⊢
   refine⟨_,rfl,_,rfl,_,_,rfl,rfl,⟨by decide,by decide⟩,_,_,rfl,rfl,_,_,rfl,rfl,.inl ⟨by omega,by omega⟩,_,_,rfl,rfl,(by show (0:Int)<2147483399;decide),_,rfl,_,_,rfl,rfl,m0,?_⟩
   exact q _ _ kp (rm _).1 (rm _).2
theorem alo {H:Hp} {l:Addr} (n:H l=none) (o:HO):∃H',upd H l o=H'/\aR H H'/\H' l=some o:=⟨_,rfl,aK n,aD⟩
def xW:Sp:=fun vs H Q _=>∃(w:Addr),vs=[.ref w]/\Wl H w/\∀p a b c H',Kp w H H'->H' p=some (.tup [.int a,.int b,.int c])->1<=a->a<=1000000->1<=b->b<=9->b<=c->c<=12->Q (.ref p) H'
def xV:Sp:=fun vs H Q _=>∃(w:Addr),vs=[.ref w]/\Wl H w/\∀p ps H',Kp w H H'->dR H' p ps->Lm.Wk ps->ps.length<=4->(∀q ∈ ps,-200000000000000000<=q.1/\q.2<=200000000000000000/\q.2<=q.1+40)->Q (.ref p) H'
theorem yG:aP ["_law_well_here","_law_every","_law_span"] ["_law_well_here"] (aH uJ):=⟨rfl,rfl,rfl,by decide +kernel,rfl,by decide +kernel,by decide +kernel⟩
theorem ok_lims {f fD:Addr} {fd fdD:FuncData} (F:Fun K "_law_limits" "_law_limits" uJ f fd) (GD:aJ P w K mg base CX0 1 fD fdD ["_law_well_here","_law_most"] mJ) (kD:keepIn K (.ref fD)=true) (bD:aO K fdD ["_law_well_here","_law_most"] []) (mD:mg "_law_draw"=some (.ref fD)):
  aJ P w K mg base CX0 2 f fd ["_law_well_here"] xW:=by
 refine F.ok yG (fun vs H Q E h=>?_) (fun cdv A outer s H vs Q E hr h=>?_)
 ·obtain⟨w',rfl,_⟩:=h
  rfl
 ·obtain⟨w',rfl,hw,q⟩:=h
  refine⟨_,(aC (aU (i:=1) yG.nd rfl (Or.inl rfl) (bU dG aE (bJ cV (cN (aA aE (aA (aL GD hr rfl mD kD bD .nil aN (aA (pv 0) (aA aE aB))) (aA (aL GD hr rfl mD kD bD .nil aN (aA (pv 0) (aA aE aB))) aB)))) (aL GD hr rfl mD kD bD .nil aN (aA (pv 0) (aA aE aB))) (fun _ _=>rfl))))
   (aC (aU (i:=2) yG.nd rfl (Or.inl rfl) (bU dG aE (bJ cV (cN (aA (aL GD hr rfl mD kD bD .nil aN (aA (pv 0) (aA aE aB))) (aA (aL GD hr rfl mD kD bD .nil aN (aA (pv 0) (aA aE aB))) (aA (aL GD hr rfl mD kD bD .nil aN (aA (pv 0) (aA (bU qM aE aE) aB))) aB)))) (aL GD hr rfl mD kD bD .nil aN (aA (pv 0) (aA aE aB))) (fun _ _=>rfl))))
   (aI (aY (cC (aA (pv 2) (aA (pv 1) (aA (bU dG (pv 1) (bJ cV (cN (aA aE (aA (aL GD hr rfl mD kD bD .nil aN (aA (pv 0) (aA aE aB))) aB))) (aL GD hr rfl mD kD bD .nil aN (aA (pv 0) (aA aE aB))) (fun _ _=>rfl))) aB)))))))),?_⟩
  have pw6:CPow 10 6:=⟨by decide,by decide,by decide⟩
  have v6:(10:Int) ^ (6:Int).toNat=1000000:=by decide
  have sz:∀{n:Nat},n<=1000->n<=sizeLine:=fun h=>Nat.le_of_lt (eS h)
  refine⟨_,rfl,w',3,rfl,hw,by decide,by decide,fun r0 H0 k0 a0 b0=>?_⟩
  refine⟨_,rfl,w',9,rfl,k0.wl,by decide,by decide,fun r1 H1 k1 a1 b1=>⟨sz (by show 3<=1000;decide),fun l1 h1=>?_⟩⟩
  obtain⟨H2,hh,s2,e2⟩:=alo h1 (.lst [.int 0,.int r0,.int r1])
  rw [hh]
  refine⟨_,rfl,w',3,rfl,k1.wl.same s2,by decide,by decide,fun r2 H3 k3 a2 b2=>?_⟩
  obtain⟨z1,m1,g1⟩:=pick (ns:=[0,r0,r1]) (i:=r2) a2 (by show r2<((3:Nat):Int);omega)
  refine⟨l1,_,_,_,rfl,rfl,SqL.of (k3.at_ _ _ (k1.wl.ne h1).symm e2),g1,_,_,rfl,rfl,?_⟩
  have kA:Kp w' H H3:=(k0.trans (k1.same s2)).trans k3
  simp only [List.mem_cons,List.not_mem_nil,or_false] at m1
  clear k0 k1 k3 s2 e2 hh g1
  refine⟨_,rfl,w',4,rfl,kA.wl,by decide,by decide,fun r3 H4 k4 a3 b3=>?_⟩
  refine⟨_,rfl,w',30,rfl,k4.wl,by decide,by decide,fun r4 H5 k5 a4 b4=>?_⟩
  refine⟨_,rfl,_,_,rfl,rfl,pw6,w',_,rfl,k5.wl,(by rw [v6];decide),(by rw [v6];decide),fun r5 H6 k6 a5 b5=>⟨sz (by show 3<=1000;decide),fun l2 h2=>?_⟩⟩
  obtain⟨H7,hh,s7,e7⟩:=alo h2 (.lst [.int r3,.int r4,.int r5])
  rw [hh]
  refine⟨_,rfl,w',3,rfl,k6.wl.same s7,by decide,by decide,fun r6 H8 k8 a6 b6=>?_⟩
  obtain⟨z2,m2,g2⟩:=pick (ns:=[r3,r4,r5]) (i:=r6) a6 (by show r6<((3:Nat):Int);omega)
  refine⟨l2,_,_,_,rfl,rfl,SqL.of (k8.at_ _ _ (k6.wl.ne h2).symm e7),g2,_,_,rfl,rfl,?_⟩
  have kB:Kp w' H H8:=(kA.trans (k4.trans (k5.trans (k6.same s7)))).trans k8
  simp only [List.mem_cons,List.not_mem_nil,or_false] at m2
  clear k4 k5 k6 k8 s7 e7 hh g2 kA
  refine⟨_,rfl,_,rfl,_,rfl,_,rfl,w',4,rfl,kB.wl,by decide,by decide,fun r7 H9 k9 a7 b7=>⟨sz (by show 2<=1000;decide),fun l3 h3=>?_⟩⟩
  obtain⟨HA,hh,sA,eA⟩:=alo h3 (.lst [.int 0,.int r7])
  rw [hh]
  refine⟨_,rfl,w',2,rfl,k9.wl.same sA,by decide,by decide,fun r8 HB kB' a8 b8=>?_⟩
  obtain⟨z3,m3,g3⟩:=pick (ns:=[0,r7]) (i:=r8) a8 (by show r8<((2:Nat):Int);omega)
  refine⟨l3,_,_,_,rfl,rfl,SqL.of (kB'.at_ _ _ (k9.wl.ne h3).symm eA),g3,_,_,rfl,rfl,sz (by show 3<=1000;decide),fun p hp=>?_⟩
  simp only [List.mem_cons,List.not_mem_nil,or_false] at m3
  rw [v6] at b5
  exact q p _ _ _ _ (((kB.trans (k9.same sA)).trans kB').same (aK hp)) aD (by omega) (by omega) (by omega) (by omega) (by omega) (by omega)
theorem qL {w:Addr} {H1 H2:Hp} (k:Kp w H1 H2) (hw:Wl H1 w) {vs:List V} {ps:List (Int × Int)} (h:cZ H1 vs ps):cZ H2 vs ps:=bY (fun v q ⟨b,z1,z2⟩=>⟨b,z1,k.tup hw z2⟩) h
theorem zZ:∀{ps:Lm.Ps} {low l h:Int},Lm.Wk ps->(∀q ∈ ps,q.2<=low)->low<=l->l<h->Lm.Wk (ps++[(l,h)])
 | [],low,l,h,_,_,_,h2=>⟨h2,fun q hq=>absurd hq (by simp),trivial⟩
 | p::t,low,l,h,w,hl,h1,h2=>by
  refine⟨w.1,fun q hq=>?_,zZ w.2.2 (fun q hq=>hl q (List.mem_cons_of_mem _ hq)) h1 h2⟩
  rcases List.mem_append.mp hq with hq|hq
  ·exact w.2.1 q hq
  ·rw [List.mem_singleton] at hq
   subst hq
   have:=hl p List.mem_cons_self
   exact Int.le_trans this h1
theorem kP:aP ["_law_well_here","_law_at","_law_found","_law_k","_law_high"] ["_law_well_here"] (aH sMake):=⟨rfl,rfl,rfl,by decide +kernel,rfl,by decide +kernel,by decide +kernel⟩
theorem ok_make {f fD:Addr} {fd fdD:FuncData} (F:Fun K "_law_work" "_law_work" sMake f fd) (G:Gb mg) (GD:aJ P w K mg base CX0 1 fD fdD ["_law_well_here","_law_most"] mJ) (kD:keepIn K (.ref fD)=true) (bD:aO K fdD ["_law_well_here","_law_most"] []) (mD:mg "_law_draw"=some (.ref fD)):
  aJ P w K mg base CX0 2 f fd ["_law_well_here"] xV:=by
 refine F.ok kP (fun vs H Q E h=>?_) (fun cdv A outer s H vs Q E hr h=>?_)
 ·obtain⟨w',rfl,_⟩:=h
  rfl
 ·obtain⟨w',rfl,hw,q⟩:=h
  refine⟨_,(aC (aU (i:=1) kP.nd rfl (Or.inl rfl) (bJ cV (cN (aA aE (aA (bU kX aE (aL GD hr rfl mD kD bD .nil aN (aA (pv 0) (aA aE aB)))) (aA (aL GD hr rfl mD kD bD .nil aN (aA (pv 0) (aA (bU qM aE aE) aB))) (aA (bU kX aE (bU qM aE aE)) (aA (bU qM aE aE) aB)))))) (aL GD hr rfl mD kD bD .nil aN (aA (pv 0) (aA aE aB))) (fun _ _=>rfl)))
   (aC (aU (i:=2) kP.nd rfl (Or.inl rfl) (cN aB))
   (aC (eU PassesOwn.never rfl (nC rfl G.range (aA (bJ cV (cN (aA aE (aA aE (aA aE (aA aE (aA aE (aA aE (aA aE aB)))))))) (aL GD hr rfl mD kD bD .nil aN (aA (pv 0) (aA aE aB))) (fun _ _=>rfl)) aB)) (cG (i:=3) kP.nd rfl (Or.inl rfl)) (aC (aU (i:=1) kP.nd rfl (Or.inl rfl) (bU dG (pv 1) (bJ cV (cN (aA aE (aA aE (aA aE (aA (aL GD hr rfl mD kD bD .nil aN (aA (pv 0) (aA aE aB))) aB))))) (aL GD hr rfl mD kD bD .nil aN (aA (pv 0) (aA aE aB))) (fun _ _=>rfl))))
   (aC (aU (i:=4) kP.nd rfl (Or.inl rfl) (bU dG (bU dG (pv 1) aE) (bJ cV (cN (aA (aL GD hr rfl mD kD bD .nil aN (aA (pv 0) (aA aE aB))) (aA (aL GD hr rfl mD kD bD .nil aN (aA (pv 0) (aA aE aB))) (aA (aL GD hr rfl mD kD bD .nil aN (aA (pv 0) (aA aE aB))) aB)))) (aL GD hr rfl mD kD bD .nil aN (aA (pv 0) (aA aE aB))) (fun _ _=>rfl))))
   (aC (cT (wF PySem.F.plainAttrs_list PySem.F.slot_list_append PySem.F.type_list_append eL (pv 2) (aA (cC (aA (pv 1) (aA (pv 4) aB))) aB)))
   (aI (aU (i:=1) kP.nd rfl (Or.inl rfl) (pv 4)))))))
   (aI (aY (dU dW (by rfl) G.tuple gZ (aA (pv 2) aB))))))),?_⟩
  have pw6:CPow 10 6:=⟨by decide,by decide,by decide⟩
  have pw17:CPow 10 17:=⟨by decide,by decide,by decide⟩
  have v6:(10:Int) ^ (6:Int).toNat=1000000:=by decide
  have v17:(10:Int) ^ (17:Int).toNat=100000000000000000:=by decide
  have sl:sizeLine=16777216:=sizeLine_eq
  have sz:∀{n:Nat},n<=1000->n<=sizeLine:=fun h=>Nat.le_of_lt (eS h)
  refine⟨_,rfl,w',50,rfl,hw,by decide,by decide,fun r0 H0 k0 a0 b0=>⟨_,_,rfl,rfl,?_⟩⟩
  refine⟨_,rfl,_,_,rfl,rfl,pw6,w',_,rfl,k0.wl,(by rw [v6];decide),(by rw [v6];decide),fun r1 H1 k1 a1 b1=>?_⟩
  refine⟨_,_,rfl,rfl,pw17,_,_,rfl,rfl,_,_,rfl,rfl,pw17,sz (by show 5<=1000;decide),fun l1 h1=>?_⟩
  obtain⟨H2,hh,s2,e2⟩:=alo h1 (.lst ([0,0-r0,r1,0-10 ^ (17:Int).toNat,10 ^ (17:Int).toNat].map V.int))
  have hh:upd H1 l1 (.lst [.int 0,.int (0-r0),.int r1,.int (0-10 ^ (17:Int).toNat),.int (10 ^ (17:Int).toNat)])=H2:=hh
  rw [hh]
  refine⟨_,rfl,w',5,rfl,k1.wl.same s2,by decide,by decide,fun r2 H3 k3 a2 b2=>?_⟩
  obtain⟨z1,m1,g1⟩:=pick (ns:=[0,0-r0,r1,0-10 ^ (17:Int).toNat,10 ^ (17:Int).toNat]) (i:=r2) a2 (by show r2<((5:Nat):Int);omega)
  refine⟨l1,_,_,_,rfl,rfl,SqL.of (k3.at_ _ _ (k1.wl.ne h1).symm e2),g1,?_⟩
  have kA:Kp w' H H3:=(k0.trans (k1.same s2)).trans k3
  rw [v17] at m1
  rw [v6] at b1
  simp only [List.mem_cons,List.not_mem_nil,or_false] at m1
  have B1:-100000000000000000<=z1/\z1<=100000000000000000:=by omega
  clear k0 k1 k3 s2 e2 hh g1 m1
  refine⟨Nat.zero_le _,fun lf hf=>?_⟩
  have nf:lf≠w':=(kA.wl.ne hf).symm
  have Hf:H lf=none:=by
   cases z:H lf with
   | none=>rfl
   | some o=>rw [kA.at_ lf o nf z] at hf;cases hf
  obtain⟨H4,hh,s4,ef⟩:=alo hf (.lst [])
  rw [hh]
  have kB:=kA.same s4
  clear hh
  refine⟨sz (by show 7<=1000;decide),fun l2 h2=>?_⟩
  obtain⟨H5,hh,s5,e5⟩:=alo h2 (.lst ([1,2,3,4,2,0,1].map V.int))
  have hh:upd H4 l2 (.lst [.int 1,.int 2,.int 3,.int 4,.int 2,.int 0,.int 1])=H5:=hh
  rw [hh]
  refine⟨_,rfl,w',7,rfl,kB.wl.same s5,by decide,by decide,fun r3 H6 k6 a3 b3=>?_⟩
  obtain⟨rn,mn,gn⟩:=pick (ns:=[1,2,3,4,2,0,1]) (i:=r3) a3 (by show r3<((7:Nat):Int);omega)
  have bn:0<=rn/\rn<=4:=(by decide:∀z ∈ ([1,2,3,4,2,0,1]:List Int),0<=z/\z<=4) rn mn
  refine⟨l2,_,_,_,rfl,rfl,SqL.of (k6.at_ _ _ (kB.wl.ne h2).symm e5),gn,rn,rfl,by omega,by omega,?_⟩
  refine iC (lo:=0) (n:=rn.toNat) (fun i σ H7=>∃(at_:Int) (vs:List V) (ps:List (Int × Int)) (u v:Option V),σ=[some (.ref w'),some (.int at_),some (.ref lf),u,v]/\Kp w' H H7/\H7 lf=some (.lst vs)/\cZ H7 vs ps/\ps.length=i/\Lm.Wk ps/\(∀q ∈ ps,q.2<=at_)/\(∀q ∈ ps,-200000000000000000<=q.1/\q.2<=200000000000000000/\q.2<=q.1+40)/\-100000000000000000<=at_/\at_<=100000000000000000+100 * (i:Int))
   ⟨z1,[],[],_,_,rfl,(kB.same s5).trans k6,k6.at_ _ _ nf (s5 _ _ ef),.nil,rfl,trivial,(fun q hq=>absurd hq (by simp)),(fun q hq=>absurd hq (by simp)),B1.1,by omega⟩ ?_ ?_
  ·rintro i σ H7 hi ⟨at_,vs,ps,u,v,rfl,kD,hF,pr,hlen,wk,hl,bd,c1,c2⟩
   have hi4:i<4:=by omega
   refine⟨_,rfl,_,rfl,w',9,rfl,kD.wl,by decide,by decide,fun s1 G1 j1 d1 f1=>⟨sz (by show 4<=1000;decide),fun l3 h3=>?_⟩⟩
   obtain⟨G2,hh,t2,e2⟩:=alo h3 (.lst ([0,0,1,s1].map V.int))
   have hh:upd G1 l3 (.lst [.int 0,.int 0,.int 1,.int s1])=G2:=hh
   rw [hh]
   refine⟨_,rfl,w',4,rfl,j1.wl.same t2,by decide,by decide,fun s2 G3 j3 d2 f2=>?_⟩
   obtain⟨x1,mx1,gx1⟩:=pick (ns:=[0,0,1,s1]) (i:=s2) d2 (by show s2<((4:Nat):Int);omega)
   refine⟨l3,_,_,_,rfl,rfl,SqL.of (j3.at_ _ _ (j1.wl.ne h3).symm e2),gx1,_,_,rfl,rfl,?_⟩
   have t3:Kp w' H7 G3:=(j1.same t2).trans j3
   simp only [List.mem_cons,List.not_mem_nil,or_false] at mx1
   clear j1 j3 t2 e2 hh gx1
   refine⟨_,rfl,_,_,rfl,rfl,_,rfl,w',4,rfl,t3.wl,by decide,by decide,fun s3 G4 j4 d3 f3=>?_⟩
   refine⟨_,rfl,w',12,rfl,j4.wl,by decide,by decide,fun s4' G5 j5 d4 f4=>?_⟩
   refine⟨_,rfl,w',40,rfl,j5.wl,by decide,by decide,fun s5' G6 j6 d5 f5=>⟨sz (by show 3<=1000;decide),fun l4 h4=>?_⟩⟩
   obtain⟨G7,hh,t7,e7⟩:=alo h4 (.lst ([s3,s4',s5'].map V.int))
   have hh:upd G6 l4 (.lst [.int s3,.int s4',.int s5'])=G7:=hh
   rw [hh]
   refine⟨_,rfl,w',3,rfl,j6.wl.same t7,by decide,by decide,fun s6 G8 j8 d6 f6=>?_⟩
   obtain⟨x2,mx2,gx2⟩:=pick (ns:=[s3,s4',s5']) (i:=s6) d6 (by show s6<((3:Nat):Int);omega)
   refine⟨l4,_,_,_,rfl,rfl,SqL.of (j8.at_ _ _ (j6.wl.ne h4).symm e7),gx2,_,_,rfl,rfl,?_⟩
   have t4:Kp w' H7 G8:=(t3.trans (j4.trans (j5.trans (j6.same t7)))).trans j8
   simp only [List.mem_cons,List.not_mem_nil,or_false] at mx2
   clear j4 j5 j6 j8 t7 e7 hh gx2 t3
   have hF8:=t4.at_ _ _ nf hF
   have pr8:=qL t4 kD.wl pr
   have k8:=kD.trans t4
   refine⟨_,rfl,.inl ⟨rfl,_,SqL.of hF8⟩,_,rfl,_,rfl,sz (by show 2<=1000;decide),fun t ht=>?_⟩
   have nt:lf≠t:=aF hF8 ht
   have lv:vs.length<=4:=by rw [pr.length];omega
   refine⟨lf,_,_,rfl,rfl,by rw [aG nt];exact hF8,by omega,?_⟩
   have kp:∀x o,x≠lf->G8 x=some o->(upd (upd G8 t (.tup [.int (at_+x1),.int (at_+x1+1+x2)])) lf (.lst (vs++[.ref t]))) x=some o:=fun x o n e=>by
    rw [aG n,aG (aF e ht)]
    exact e
   refine⟨_,rfl,at_+x1+1+x2,vs++[.ref t],ps++[(at_+x1,at_+x1+1+x2)],_,_,rfl,⟨fun x o n z=>kp _ _ (aF z Hf) (k8.at_ _ _ n z),?_⟩,aD,?_,by rw [List.length_append,hlen];rfl,zZ wk hl (by omega) (by omega),fun q hq=>?_,fun q hq=>?_,by omega,by omega⟩
   ·obtain⟨a,b,c,z⟩:=k8.wl
    exact⟨a,b,c,kp _ _ nf.symm z⟩
   ·refine dB (bY (fun v q ⟨b,z1,z2⟩=>⟨b,z1,kp _ _ (aX z2 hF8 (by intro z;cases z)) z2⟩) pr8) ⟨t,rfl,by rw [aG nt.symm,aD]⟩
   ·rcases List.mem_append.mp hq with hq|hq
    ·have:=hl q hq
     omega
    ·rw [List.mem_singleton] at hq
     subst hq
     exact Int.le_refl _
   ·rcases List.mem_append.mp hq with hq|hq
    ·exact bd q hq
    ·rw [List.mem_singleton] at hq
     subst hq
     exact⟨by show _<=at_+x1;omega,by show at_+x1+1+x2<=_;omega,by show at_+x1+1+x2<=at_+x1+40;omega⟩
  ·rintro σ H7 ⟨at_,vs,ps,u,v,rfl,kD,hF,pr,hlen,wk,hl,bd,c1,c2⟩
   refine⟨_,rfl,lf,vs,rfl,.inl ⟨SqL.of hF,fun r hr=>?_⟩⟩
   exact q r ps _ (kD.same (aK hr)) ⟨vs,aD,bY (fun v q ⟨b,z1,z2⟩=>⟨b,z1,aK hr _ _ z2⟩) pr⟩ wk (by omega) bd
end
end Ls
namespace L2
open PySem PySem.Spec PyProof.Rows PySem.W
section
variable {X:Cx}
end
section
variable {P:Program} {w:World} {K:PySem.W.Frag} {mg:Str->Option Value} {base:Heap} {x qual:Str} {st:Stmt} {f c:Addr} {fd:FuncData}
end
section
variable {X:Cx}
end
end L2
namespace Hd
open PySem PyProof.Rows
section
variable {prog:Program} {w:World} {A:Around} {E:Value->Shared->Prop} {s:Shared}
theorem rY:entryFor table "proto.unchain"=some Builtin.«proto.unchain»:=entryFor_of_tree (by kernel_rfl)
theorem rT:plainId "proto.unchain"=true:=by decide +kernel
theorem tI {v:Value} {h:Addr} {oh:Obj} {fs:Array Value} {Q:Value->Shared->Prop} (hh:s.heap.get? h=some oh) (hd:oh.data=.fields fs) (h2:fs[2]?=some .none) (hQ:Q .none s):
  wpAny (model prog w) A (runValue (.builtin "proto.unchain" ⟨[v,.ref h,.ref h,.bool false],[]⟩)) Q E s:=by
 refine wpAny_runValue (codeAny_builtin rY ?_)
 rw [Around.under_plainId rT _]
 show wpAny _ _ (field (.ref h) 2 >>= _) _ _ s
 refine wpAny_bind (wpAny_field hh hd h2 ?_)
 show wpAny _ _ (ret Value.none) _ _ s
 exact wpAny_pure hQ
theorem stopH {α:Type} {h:Addr} {Q:α->Shared->Prop} (hh:A.handled=some (.ref h)) (nc:NoCtx h s.heap)
  (hE:∀g e,(∀b o,s.heap.get? b=some o->g.get? b=some o)->(∃o,g.get? e=some o/\o.cls=.type "StopIteration")->E (.ref e) { s with heap:=g }):
  wpAny (model prog w) A (do let e <- newExc (.type "StopIteration") [];raiseNew e) Q E s:=by
 obtain⟨oh,fs,n1,n2,n3⟩:=nc
 have hlt:h<s.heap.objs.size:=Heap.lt_size n1
 refine wpAny_bind ?_
 simp only [newExc,newTuple]
 refine wpAny_bind (wpAny_newObj_type ?_ (by size_fits))
 refine wpAny_bind (m:=firstArgMember _ _) (wpAny_of_eq (a:=Value.none) rfl ?_)
 refine wpAny_newObj_type ?_ (by size_fits)
 unfold raiseNew
 refine wpAny_bind (wpAny_handled ?_)
 rw [hh]
 generalize hT:s.heap.push { cls:=Value.type "tuple",data:=Data.seq #[] }=g1
 have k1:∀b o,s.heap.get? b=some o->g1.get? b=some o:=fun b o e=>by
  rw [<- hT]
  exact Heap.get?_push_of_some _ e
 have s1:g1.objs.size=s.heap.objs.size+1:=by rw [<- hT,Heap.size_push]
 dsimp only
 rw [if_pos (by
  show (Value.ref h != Value.ref g1.objs.size)=true
  simp only [bne_iff_ne,ne_eq,Value.ref.injEq]
  exact Nat.ne_of_lt (by rw [s1];exact Nat.lt_succ_of_lt hlt))]
 refine wpAny_bind (wpAny_holding (tI (oh:=oh) (fs:=fs) (Heap.get?_push_of_some _ (k1 _ _ n1)) n2 n3 ?_))
 have eN:=Heap.get?_push_size g1 (o:={ cls:=Value.type "StopIteration",data:=Data.fields (#[Value.ref s.heap.objs.size,Value.none,Value.none,Value.none,Value.bool false,Value.none]++ownMembersOf (Value.type "StopIteration") []) }) rfl
 refine wpAny_bind (wpAny_setField eN rfl (by simp;omega) ?_)
 refine wpAny_throw (hE _ _ (fun b o e=>?_) ⟨_,Heap.get?_update_self _ eN rfl,rfl⟩)
 have hb:=Heap.lt_size e
 rw [Heap.get?_update_other _ _ (Nat.ne_of_gt (by rw [s1];exact Nat.lt_succ_of_lt hb))]
 exact Heap.get?_push_of_some _ (k1 b o e)
theorem NoCtx.upd {it h:Addr} {f:Obj->Obj} {hp:Heap} (n:NoCtx h hp) (hne:h≠it):NoCtx h (hp.update it f):=n.other (Heap.get?_update_other _ _ (Ne.symm hne))
theorem AgE {it l h:Addr} {i:Nat} {items:Array Value} {Q:PySem.Fin->Shared->Prop} (hh:A.handled=some (.ref h)) (hit:s.heap.IsListIter it l i) (hl:s.heap.IsList l items) (hx:items[i]?=none) (nc:NoCtx h s.heap) (hne:h≠it)
  (hE:∀h' e,Heap.ExtBut it s.heap h'->(∃o,h'.get? e=some o/\o.cls=.type "StopIteration")->E (.ref e) { s with heap:=h' }):wpAny (model prog w) A (Builtin.«list_iterator.__next__» ⟨[.ref it],[]⟩) Q E s:=by
 obtain⟨o,hoi,hc,hdi⟩:=id hit
 obtain⟨ol,hol,_,nl,hdl⟩:=hl
 show wpAny _ _ (field (Value.ref it) 0 >>= _) _ _ _
 refine wpAny_bind (wpAny_field (x:=Value.ref l) hoi hdi rfl ?_)
 show wpAny _ _ (if (Value.ref l == Value.none)=true then _ else _) _ _ _
 rw [if_neg (by simp)]
 show wpAny _ _ (field (Value.ref it) 1 >>= _) _ _ _
 refine wpAny_bind (wpAny_field (x:=Value.int i 0) hoi hdi rfl (wpAny_bind (wpAny_seqItems hol hdl ?_)))
 simp only [Int.toNat_natCast,hx]
 refine wpAny_bind (wpAny_rule (wpAny_bind (wpAny_setField hoi hdi (by simp) (stopH hh (nc.upd hne) fun g e kk he=>hE g e (fun b ob nb z=>kk b ob ?_) he))))
 exact(Heap.get?_update_other _ _ (Ne.symm nb)).trans z
theorem tup_endH {it t h:Addr} {i:Nat} {items:Array Value} {Q:Option Value->Shared->Prop} (hh:A.handled=some (.ref h)) (hit:IsTupIter s.heap it t i) (ht:IsTup s.heap t items) (hx:items[i]?=none) (nc:NoCtx h s.heap) (hne:h≠it)
  (hQ:∀h',Heap.ExtBut it s.heap h'->Q none { s with heap:=h' }):wpAny (model prog w) A (pyNext (.ref it)) Q E s:=by
 obtain⟨o,hoi,hc,hdi⟩:=id hit
 obtain⟨ol,hol,_,nl,hdl⟩:=ht
 unfold pyNext
 refine wpAny_bind (wpAny_attempt (wpAny_callSpecial?_slot hit.typeIs slot_tupleiter_next (wpAny_call_entry slot_tupleiter_next hit.typeIs entry_tupleiter_next ?_ (args_tupleiter_next _))))
 show wpAny _ _ (field (Value.ref it) 0 >>= _) _ _ _
 refine wpAny_bind (wpAny_field (x:=Value.ref t) hoi hdi rfl ?_)
 show wpAny _ _ (if (Value.ref t == Value.none)=true then _ else _) _ _ _
 rw [if_neg (by simp)]
 show wpAny _ _ (field (Value.ref it) 1 >>= _) _ _ _
 refine wpAny_bind (wpAny_field (x:=Value.int i 0) hoi hdi rfl (wpAny_bind (wpAny_seqItems hol hdl ?_)))
 simp only [Int.toNat_natCast,hx]
 refine wpAny_bind (wpAny_rule (wpAny_bind (wpAny_setField hoi hdi (by simp) (stopH (A:=A.in1) hh (nc.upd hne) fun g e kk he=>?_))))
 refine wpAny_bind (wpAny_isInstance (T:="StopIteration") (b:=true) he isSubtype_stop (wpAny_pure (hQ g fun b ob nb z=>kk b ob ?_)))
 exact(Heap.get?_update_other _ _ (Ne.symm nb)).trans z
theorem nextOf_endH {it l h:Addr} {i:Nat} {items:Array Value} {Q:Value->Shared->Prop} (hh:A.handled=some (.ref h)) (hit:s.heap.IsListIter it l i) (hl:s.heap.IsList l items) (hx:items[i]?=none) (nc:NoCtx h s.heap) (hne:h≠it)
  (hE:∀h' e,Heap.ExtBut it s.heap h'->(∃o,h'.get? e=some o/\o.cls=.type "StopIteration")->E (.ref e) { s with heap:=h' }):wpAny (model prog w) A (Builtin.SmallTypes.nextOf (.ref it)) Q E s:=by
 unfold Builtin.SmallTypes.nextOf
 exact wpAny_bind (wpAny_callSpecial?_slot (name:=Str.ofString "__next__") hit.typeIs slot_listiter_next (wpAny_call_entry slot_listiter_next hit.typeIs entry_listiter_next (AgE (A:=A.in1) hh hit hl hx nc hne hE) (args_listiter_next _)))
end
section
variable {prog:Program} {w:World} {A:Around} {E:Value->Shared->Prop} {s:Shared} {h₀:Heap} {L l h:Addr} {m:Str->Option Value} {news:List (Addr × Obj)} {vs:List Value}
end
end Hd
namespace L2
open PySem PySem.Spec PyProof.Rows
structure iR (k:Nat) (A:Around) (h:Addr):Prop where
 hd:A.handled=some (.ref h)
 dp:A.depth+3 * k+5<recursionLimit
 un:A.units+16 * k+200<cLine
theorem iR.mono {j k:Nat} {A:Around} {h:Addr} (r:iR k A h) (e:j<=k):iR j A h:=⟨r.hd,by have:=r.dp;omega,by have:=r.un;omega⟩
theorem iR.deeper {k:Nat} {A:Around} {h:Addr} (r:iR (k+1) A h) (env:Env):iR k (A.deeper env) h:=
 ⟨r.hd,by have:=r.dp;show A.depth+1+3 * k+5<_;omega,by have:=r.un;show A.units+3+16 * k+200<_;omega⟩
theorem Room.suite {k:Nat} {A:Around} (r:Room k A) (h:Addr):iR k (A.mark (some (.ref h))) h:=⟨rfl,r.dp,r.un⟩
structure rO (P:Program) (w:World) (K:PySem.W.Frag) (mg:Str->Option Value) (base:Heap) (k:Nat) (f:Addr) (fd:FuncData) (ps:List Str) (sp:Addr->Sp):Prop where
 len:∀h vs H Q E,sp h vs H Q E->vs.length=ps.length
 run:∀(A:Around) (outer:List Env) (s:Shared) (H:Hp) (args:Args) (us:List Value) (vs:List V) (Q:VK) (h:Addr),iR k A h->rP P w K mg base A outer s H->BindsTo s fd args (ps.zip us)->cE vs us->sp h vs H Q E0 ->
  codeAny (model P w) A (.call (.ref f) args) (CR CX0 outer P w H s Q E0) s
abbrev cxH (P:Program) (w:World) (K:PySem.W.Frag) (mg:Str->Option Value) (base:Heap) (N:List Str) (qual:Str) (scope:Scope) (f:Addr) (cd:Value) (A:Around) (outer:List Env) (s:Shared) (H:Hp):Cx:=
 { jV CX0 P w K mg base N qual scope f cd A outer s H E0 with calm:=false,xe:=fun _ _=>False }
theorem fn_ofH {P:Program} {w:World} {K:PySem.W.Frag} {mg:Str->Option Value} {base:Heap} {k:Nat} {f:Addr} {name qual:Str} {params:Arguments} {body:List Stmt} {scope:Scope} {dV kV doc pm cdv ct oc:Value} {an od:Option Addr}
  {osl:Array (Option Value)} {N ps:List Str} {sp:Addr->Sp} (lk:K.lookup f=some ⟨oc,od,.func (PySem.W.fnOf name qual params body scope dV kV doc pm an cdv ct),osl⟩) (hcd:PySem.W.codeIn K cdv qual=true) (S:aP N ps scope)
  (len:∀h vs H Q E,sp h vs H Q E->vs.length=ps.length)
  (hbody:∀(A:Around) (outer:List Env) (s:Shared) (H:Hp) (vs:List V) (Q:VK) (h:Addr),iR k (A.deeper (envOfC qual scope s.heap.objs.size f cdv)) h->sp h vs H Q E0 ->
   ∃t,PSs (cxH P w K mg base N qual scope f cdv A outer s H) body t/\t { nx:=fun _ H'=>Q .non H',rt:=Q } (dI N vs) H):
  rO P w K mg base (k+1) f (PySem.W.fnOf name qual params body scope dV kV doc pm an cdv ct) ps sp:=by
 refine⟨len,fun A outer s H args us vs Q h hr e0 hb r hsp=>?_⟩
 have hl:=len _ _ _ _ _ hsp
 have KX:K.In s.heap:=e0.mod.kin.keeps fun b o e=>(e0.bs b o e).1
 have lim:s.heap.NoLimit:=e0.mod.nolimit.keeps fun b o e=>(e0.bs b o e).1
 have hkind:∀y ∈ ps.zip us,scope.names.lookup y.1=some .local\/(scope.names.lookup y.1=some .cell/\((cellsFrom (s.heap.objs.size+1) scope.names []).lookup y.1).isSome=true):=fun⟨n,v⟩ hy=>by
  rcases S.par n (List.of_mem_zip hy).1 with q|q
  ·exact .inl q
  ·exact .inr ⟨q,PySem.W.cellsFrom_some _ _ _ (.inl q)⟩
 refine codeAny_call_function (by have:=hr.dp;omega) (KX _ _ lk) rfl S.co S.gen rfl (PySem.W.codeRec_of KX hcd) (hb _ _ _ _ ?_)
 refine wpAny_newFunctionEnv_cells S.kind hkind fun env he s1 x=>?_
 subst he
 refine⟨lim.keeps x.toInCall.keep,codeAny_func ?_⟩
 obtain⟨t,ht,hq⟩:=hbody A outer s H vs Q h (hr.deeper _) hsp
 have e1:rP P w K mg base { A with handled:=none } outer s H:=⟨e0.frames,e0.mod,e0.bs,e0.bsz,e0.funs,e0.frf,e0.hok,e0.bare⟩
 have I0:Inv (jV CX0 P w K mg base N qual scope f cdv { A with handled:=none } outer s H E0) [] (dI N vs) H s1:=nQ S rfl e1 hl r x
 have ok:(cxH P w K mg base N qual scope f cdv A outer s H).Ok:=
  let ok:=I0.ok
  ⟨ok.mod,ok.kind,ok.glob,ok.blt,ok.above,ok.inj,ok.has,ok.cab,fun z=>(nomatch z),Around.frames_deeper e0.frames,ok.stk,ok.exf,ok.bs,ok.bsz,ok.noex,ok.exfs,ok.funs,ok.frf⟩
 have I:Inv (cxH P w K mg base N qual scope f cdv A outer s H) [] (dI N vs) H s1:=I0.re ok rfl rfl rfl rfl rfl rfl rfl rfl fun p z=>z
 refine wpAny_mono (ht s1 (dI N vs) H _ I hq) (fun fl s' hs=>?_) fun e s' hs=>hs.elim
 have fin:∀{σ':St} {H':Hp} {v:V} {u:Value},Inv (cxH P w K mg base N qual scope f cdv A outer s H) [] σ' H' s'->cK v u->Q v H'->CE outer P w H s Q u s':=
  fun {σ' H' v u} J rv q=>⟨v,H',J.os,J.bare,J.base,J.hok,rv,q⟩
 cases fl with
 | ret u=>
  obtain⟨v,σ',H',J,rv,q⟩:=hs
  exact fin J rv q
 | next=>
  obtain⟨σ',H',J,q⟩:=hs
  exact fin (v:=V.non) (u:=Value.none) J rfl q
 | brk=>
  obtain⟨_,_,_,q⟩:=hs
  exact False.elim q
 | cont=>
  obtain⟨_,_,_,q⟩:=hs
  exact False.elim q
theorem Fun.okH {P:Program} {w:World} {K:PySem.W.Frag} {mg:Str->Option Value} {base:Heap} {x qual:Str} {st:Stmt} {f:Addr} {fd:FuncData} {N ps:List Str} {k:Nat} {sp:Addr->Sp} (F:Fun K x qual st f fd) (S:aP N ps (aH st)) (len:∀h vs H Q E,sp h vs H Q E->vs.length=ps.length)
  (hbody:∀(cdv:Value) (A:Around) (outer:List Env) (s:Shared) (H:Hp) (vs:List V) (Q:VK) (h:Addr),iR k (A.deeper (envOfC qual (aH st) s.heap.objs.size f cdv)) h->sp h vs H Q E0 ->
   ∃t,PSs (cxH P w K mg base N qual (aH st) f cdv A outer s H) (cS st) t/\t { nx:=fun _ H'=>Q .non H',rt:=Q } (dI N vs) H):rO P w K mg base (k+1) f fd ps sp:=by
 obtain⟨oc,od,kV,doc,pm,an,cdv,ct,osl,rfl,lk,hcd⟩:=F.ex
 exact fn_ofH lk hcd S len fun A outer s H vs Q h hr hsp=>hbody cdv A outer s H vs Q h hr hsp
section
variable {X:Cx} {k:Nat} {f h:Addr} {fd:FuncData} {ps:List Str} {sp:Addr->Sp} {dvs:List V} {ds:List Value} {x:Str} {p pos:Pos} {e:Expr} {es:List Expr} {t:TA}
theorem run_fnH {pins:List (Addr × Obj)} {σ:St} {H:Hp} {s:Shared} {Q:VK} {us:List Value} {vs:List V} (F:rO X.prog X.w X.K X.mg X.base k f fd ps sp) (hr:iR k X.A h) (hb:aO X.K fd ps ds) (hd:cE dvs ds)
  (I:Inv X pins σ H s) (r:cE vs us) (q:sp h (vs++dvs) H Q E0):wpAny (model X.prog X.w) X.A (call (.ref f) us) (EP X pins σ Q) X.xe s:=by
 have r2:cE (vs++dvs) (us++ds):=r.append hd
 have hl:(us++ds).length=ps.length:=by rw [<- r2.length];exact F.len _ _ _ _ _ q
 refine wpAny_call (codeAny_mono (F.run X.A X.stack s H ⟨us,[]⟩ (us++ds) (vs++dvs) Q h hr I.env0 (hb s us I.kIn hl) r2 q) fun r s' hq=>?_)
 cases r with
 | error e=>exact aN pins σ H s e s' I hq
 | ok fl=>
  cases fl with
  | ret u=>exact I.after hq
  | next=>exact False.elim hq
  | brk=>exact False.elim hq
  | cont=>exact False.elim hq
theorem AfA (F:rO X.prog X.w X.K X.mg X.base k f fd ps sp) (hr:iR k X.A h) (hg:Gl X x) (hm:X.mg x=some (.ref f)) (hk:PySem.W.keepIn X.K (.ref f)=true) (hb:aO X.K fd ps ds) (hd:cE dvs ds)
  (ha:PA X (e::es) t) (hdb:(x == ("__debug__":Str))=false:=by decide) (he:starEach (e::es) X.env=(false,eval e X.env)::starEach es X.env:=by rfl) (hpl:(backTo pos (starEach es X.env)).any (·.1)=false:=by rfl):
  PE X (.Call (.Name x p) (e::es) [] pos) (vM (sp h) dvs E0 t):=by
 intro pins s σ H Q I q
 refine wpAny_Call_Name_kw (gP I hg hm ?_ hdb)
 refine PySem.W.callWith_K (h₀:=X.base) I.ok.mod.kin hk (thn (ha pins s σ H _ I q) fun us s1 ⟨vs,H1,I1,r,q⟩=>⟨I1.kIn,?_⟩) he hpl
 exact run_fnH F hr hb hd I1 r q
end
def Le (σw σ:St):Prop:=∀(i:Nat) v,σw[i]?=some (some v)->σ[i]?=some (some v)
theorem Le.refl (σ:St):Le σ σ:=fun _ _ z=>z
def vG (CX:CXT) (X:Cx) (σw:St) (E:XK):Prop:=∀(pins:List (Addr × Obj)) (σ:St) (H:Hp) (s:Shared) (e:Value) (s':Shared),Le σw σ->Inv X pins σ H s->CX X.stack H s E e s'->X.xe e s'
def tKeep (σw:St) (t:TE):TE:=fun σ H Q=>Le σw σ/\t σ H Q
def tryEK (K:PySem.W.Frag) (cv:Value) (i:Nat) (σw:St) (ts:Addr->TS) (D:jI):XK:=fun cls _ H=>∃C,cls=.ref C/\PySem.W.exmOne K cls cv=some true /\
 ∀ea,H ea=none->ts ea { nx:=fun σ H'=>D.nx (σ.set i none) H',rt:=D.rt,bk:=fun σ H'=>D.bk (σ.set i none) H',ct:=fun σ H'=>D.ct (σ.set i none) H' } (σw.set i (some (.ref ea))) (upd H ea (jU ea C))
def tTryK (tb:XK->St->TS) (K:PySem.W.Frag) (cv:Value) (i:Nat) (wk:St->St) (ts:Addr->TS):TS:=fun D σ H=>tb (tryEK K cv i (wk σ) ts D) (wk σ) D σ H
section
variable {X:Cx} {CX:CXT} {k:Nat} {f C:Addr} {fd:FuncData} {ps:List Str} {sp:Sp} {dvs:List V} {ds:List Value} {E:XK} {x m:Str} {p pos apos:Pos} {e o:Expr} {es:List Expr} {ta:TE} {t:TA} {σw:St}
theorem AeL {pins:List (Addr × Obj)} {σ:St} {H:Hp} {s:Shared} {Q:VK} {us:List Value} {vs:List V} (F:aJ X.prog X.w X.K X.mg X.base CX k f fd ps sp) (hr:Room k X.A) (hb:aO X.K fd ps ds) (hd:cE dvs ds) (hx:vG CX X σw E) (le:Le σw σ)
  (I:Inv X pins σ H s) (r:cE vs us) (q:sp (vs++dvs) H Q E):wpAny (model X.prog X.w) X.A (call (.ref f) us) (EP X pins σ Q) X.xe s:=by
 have r2:cE (vs++dvs) (us++ds):=r.append hd
 have hl:(us++ds).length=ps.length:=by rw [<- r2.length];exact F.len _ _ _ _ q
 refine wpAny_call (codeAny_mono (F.run X.A X.stack s H ⟨us,[]⟩ (us++ds) (vs++dvs) Q E hr I.env0 (hb s us I.kIn hl) r2 q) fun r s' hq=>?_)
 cases r with
 | error e=>exact hx pins σ H s e s' le I hq
 | ok fl=>
  cases fl with
  | ret u=>exact I.after hq
  | next=>exact hq.elim
  | brk=>exact hq.elim
  | cont=>exact hq.elim
theorem AcI (F:aJ X.prog X.w X.K X.mg X.base CX k f fd ps sp) (hr:Room k X.A) (hg:Gl X x) (hm:X.mg x=some (.ref f)) (hk:PySem.W.keepIn X.K (.ref f)=true) (hb:aO X.K fd ps ds) (hd:cE dvs ds) (hx:vG CX X σw E)
  (ha:PA X (e::es) t) (hdb:(x == ("__debug__":Str))=false:=by decide) (he:starEach (e::es) X.env=(false,eval e X.env)::starEach es X.env:=by rfl) (hpl:(backTo pos (starEach es X.env)).any (·.1)=false:=by rfl):
  PE X (.Call (.Name x p) (e::es) [] pos) (tKeep σw (vM sp dvs E t)):=by
 intro pins s σ H Q I ⟨le,q⟩
 refine wpAny_Call_Name_kw (gP I hg hm ?_ hdb)
 refine PySem.W.callWith_K (h₀:=X.base) I.ok.mod.kin hk (thn (ha pins s σ H _ I q) fun us s1 ⟨vs,H1,I1,r,q⟩=>⟨I1.kIn,?_⟩) he hpl
 exact AeL F hr hb hd hx le I1 r q
theorem AaR {body:List Stmt} {b₀:Stmt} {suite:List Stmt} {x n:Str} {np hpos pos:Pos} {i:Nat} {tb:XK->St->TS} {ts:Addr->TS} {wk:St->St} {cv:Value} (hw:∀ σ,σ.length=X.N.length->(wk σ).length=X.N.length/\Le (wk σ) σ) (hnx:X.xe=fun _ _=>False) (hN:X.N.Nodup) (hi:X.N[i]?=some n) (hx:X.env.scope.names.lookup n=some .local)
  (hst:X.stack=X.env::X.outer/\X.env.frame=some X.env.locals) (hg:Gl X x) (hm:X.mg x=some cv)
  (hb:∀(pn:List (Addr × Obj)) (xe:Value->Shared->Prop) (E:XK) (σw:St),vG (CXE X.prog X.w) (X.try_ pn xe) σw E->PSs (X.try_ pn xe) body (tb E σw))
  (hs:∀ea,PSs (X.suite (.ref ea)) (b₀::suite) (ts ea)) (hd:(x == ("__debug__":Str))=false:=by decide):
  PS X (.Try body [.ExceptHandler (some (.Name x np)) (some n) (b₀::suite) hpos] [] [] pos) (tTryK tb X.K cv i wk ts):=by
 intro pins s σ H D I h
 rw [hnx]
 refine wpAny_Try_except ?_
 refine wpAny_mono (hb (X.pn++pins) (fun e s'=>∃pins' σ' H0 s0,Le (wk σ) σ'/\Inv (X.try_ (X.pn++pins) fun _ _=>False) pins' σ' H0 s0/\CXE X.prog X.w X.stack H0 s0 (tryEK X.K cv i (wk σ) ts D) e s') _ _
  (fun pins' σ' H0 s0 e s' le J hc=>⟨pins',σ',H0,s0,le,J.re (J.ok.try_ _ _) rfl rfl rfl rfl rfl rfl rfl rfl fun p z=>z,hc⟩) (pins:=[]) s σ H D
  (I.re (I.ok.try_ _ _) rfl rfl rfl rfl rfl rfl rfl rfl fun p z=>by simpa using z) h) (fun f s1 q=>?_) fun e s1 q=>?_
 ·have back:SP X pins D f s1:=by
   cases f with
   | next=>obtain⟨σ',H',J,q⟩:=q;exact⟨σ',H',J.re I.ok rfl rfl rfl rfl rfl rfl rfl rfl fun p z=>by simpa using z,q⟩
   | brk=>obtain⟨σ',H',J,q⟩:=q;exact⟨σ',H',J.re I.ok rfl rfl rfl rfl rfl rfl rfl rfl fun p z=>by simpa using z,q⟩
   | cont=>obtain⟨σ',H',J,q⟩:=q;exact⟨σ',H',J.re I.ok rfl rfl rfl rfl rfl rfl rfl rfl fun p z=>by simpa using z,q⟩
   | ret u=>obtain⟨v,σ',H',J,r,q⟩:=q;exact⟨v,σ',H',J.re I.ok rfl rfl rfl rfl rfl rfl rfl rfl fun p z=>by simpa using z,r,q⟩
  cases f with
  | next=>exact wpAny_execs_nil back
  | brk=>exact back
  | cont=>exact back
  | ret u=>exact back
 ·obtain⟨pins',σ',H0,s0,le,J,ea,cls,a0,H',B,rfl,os,bare,F,C,rfl,hex,hsu⟩:=q
  have fr:X.A.frames=some (X.env::X.outer):=by rw [<- hst.1];exact I.ok.frames
  have F':=F
  rw [hst.1] at F'
  refine Hd.look2 fr hst.2 F'.fly F'.nc fun h4 held up4 nc4=>?_
  refine Hd.land2 held nc4 fun h5 fl5 up5 nc5=>?_
  have F5:=F'.later fl5 nc5 (up4.trans up5)
  have mkI:∀(hh:Heap),Fly X.prog X.w (X.env::X.outer) H0 s0.heap ea (.ref C) a0 H' B hh->Inv (X.suite (.ref ea)) (X.pn++pins) (wk σ) (upd H' ea (jU ea C)) { s1 with heap:=hh }:=fun hh FF=>by
   obtain⟨un,hok⟩:=FF.laid
   rw [<- hst.1] at un
   have J1:Inv (X.try_ (X.pn++pins) fun _ _=>False) pins' σ' (upd H' ea (jU ea C)) { s1 with heap:=hh }:=
    J.call' (s':={ s1 with heap:=hh }) os un hok bare (fun b z=>absurd z (by simp))
   have J2:Inv (X.suite (.ref ea)) (X.pn++pins) σ' (upd H' ea (jU ea C)) { s1 with heap:=hh }:=J1.re (I.ok.suite _) rfl rfl rfl rfl rfl rfl rfl rfl fun p z=>by
    rcases List.mem_append.mp z with z|z
    ·exact List.mem_append_left _ (List.mem_append_left _ z)
    ·exact List.mem_append_left _ z
   exact J2.weak (by rw [(hw σ I.len).1,J2.len]) le
  have I5:=mkI h5 F5
  have up5':=up4.trans up5
  refine wpAny_handleBy_cons (codeAny_handlers_test (env:=X.env) (gP (X:=X.suite (.ref ea)) I5 hg hm ?_ hd)) (by intro z;cases z)
  have Lm:PySem.W.Looks (model X.prog X.w) h5 (excMatches (.ref ea) cv) true:=by
   refine PySem.W.exm_one I5.kIn ?_ hex
   obtain⟨o,z,c⟩:=fl5.there
   exact jZ.ty ⟨o,z,c⟩
  refine Lm.at ?_
  refine codeAny_handlers_suite_as ?_
  refine Hd.again2 fl5 nc5 fun h6 fl6 up6 nc6=>?_
  have I6:=mkI h6 (F5.later fl6 nc6 up6)
  refine lD (X:=X.suite (.ref ea)) I6 hN hi (Or.inl hx) (v:=.ref ea) rfl (fun s7 I7=>?_) (.inr hx)
  refine wpAny_mono (hs ea s7 _ _ { nx:=fun σ H'=>D.nx (σ.set i none) H',rt:=D.rt,bk:=fun σ H'=>D.bk (σ.set i none) H',ct:=fun σ H'=>D.ct (σ.set i none) H' } I7 (hsu ea F.freeE)) (fun f s8 q=>?_) fun _ _ z=>z.elim
  have bk:∀{σ8:St} {H8:Hp} {s9:Shared},Inv (X.suite (.ref ea)) (X.pn++pins) σ8 H8 s9->Inv X pins σ8 H8 s9:=fun J=>J.re I.ok rfl rfl rfl rfl rfl rfl rfl rfl fun p z=>by
   rcases List.mem_append.mp z with z|z
   ·exact List.mem_append_left _ z
   ·exact List.mem_append_right _ (List.mem_append_right _ z)
  cases f with
  | next=>obtain⟨σ8,H8,I8,q⟩:=q;exact jR (bk I8) hN hi hx fun s9 I9=>⟨_,H8,I9,q⟩
  | brk=>obtain⟨σ8,H8,I8,q⟩:=q;exact jR (bk I8) hN hi hx fun s9 I9=>⟨_,H8,I9,q⟩
  | cont=>obtain⟨σ8,H8,I8,q⟩:=q;exact jR (bk I8) hN hi hx fun s9 I9=>⟨_,H8,I9,q⟩
  | ret u=>obtain⟨v,σ8,H8,I8,r,q⟩:=q;exact jR (bk I8) hN hi hx fun s9 I9=>⟨v,_,H8,I9,r,q⟩
end
end L2
namespace L2
open PySem PySem.Spec PyProof.Rows PySem.W
structure ZipL (hp:Heap) (z p q i j l m:Addr) (k:Nat):Prop where
 zp:IsZip hp z p q .none
 pp:IsPair hp p (.ref i) (.ref j)
 qp:∃u v,IsPair hp q u v
 ii:hp.IsListIter i l k
 jj:hp.IsListIter j m k
section
variable {prog:Program} {w:World} {A:Around} {E:Value->Shared->Prop} {s:Shared}
theorem AdR {z p q i j l m h:Addr} {k:Nat} {xs:Array Value} {Q:Option Value->Shared->Prop} (hh:A.handled=some (.ref h)) (nc:Hd.NoCtx h s.heap) (nzi:z≠i) (nzl:z≠l) (nzh:z≠h) (nih:h≠i) (Z:ZipL s.heap z p q i j l m k) (hl:s.heap.IsList l xs) (hx:xs[k]?=none)
  (hQ:∀g,(∀c o,c≠z->c≠i->s.heap.get? c=some o->g.get? c=some o)->Q none { s with heap:=g }):wpAny (model prog w) A (pyNext (.ref z)) Q E s:=by
 obtain⟨hz,hp,⟨u,v,hq⟩,h1,h2⟩:=Z
 obtain⟨oh,fs,n1,n2,n3⟩:=nc
 have hT:s.TypeIs (.ref z) "zip":=⟨_,hz,rfl⟩
 unfold pyNext
 refine wpAny_bind (wpAny_attempt (wpAny_callSpecial?_slot hT F.slot_zip_next (wpAny_call_entry F.slot_zip_next hT F.entry_zip_next ?_ (F.args_zip_next_1 _))))
 show wpAny _ _ (field (Value.ref z) 2 >>= _) _ _ _
 refine wpAny_bind (wpAny_field (x:=Value.bool false) hz rfl rfl ?_)
 show wpAny _ _ (field (Value.ref z) 3 >>= _) _ _ _
 refine wpAny_bind (wpAny_field (x:=Value.ref p) hz rfl rfl (wpAny_bind (wpAny_seqItems hp rfl ?_)))
 show wpAny _ _ (Builtin.SmallTypes.ownedTupleIsFree (Value.ref z) >>= _) _ _ _
 unfold Builtin.SmallTypes.ownedTupleIsFree
 refine wpAny_bind (wpAny_bind (wpAny_field (x:=Value.none) hz rfl rfl (wpAny_pure ?_)))
 simp only [if_true]
 refine wpAny_bind (wpAny_rule (wpAny_bind (wpAny_field (x:=Value.ref q) hz rfl rfl ?_)))
 refine wpAny_bind (wpAny_setField_rec hz (by simp) fun g1 z1 b1=>?_)
 have z1':IsZip g1 z p q .ellipsis:=z1
 refine wpAny_bind ?_
 simp only [List.zipIdx_cons,List.zipIdx_nil,List.forIn_cons,List.forIn_nil]
 refine wpAny_bind (wpAny_bind (wpAny_onRaise ?_))
 show wpAny _ _ (Builtin.SmallTypes.nextOf (Value.ref i) >>= _) _ _ _
 have e1:∀c o,c≠z->s.heap.get? c=some o->g1.get? c=some o:=fun c o n e=>(b1.2 c n).trans e
 refine wpAny_bind (Hd.nextOf_endH (A:=A.in1) hh (h1.at fun o e=>e1 _ o nzi.symm e) (hl.at fun o e=>e1 _ o nzl.symm e) hx ⟨oh,fs,e1 _ _ nzh.symm n1,n2,n3⟩ nih fun g2 ea b2 ⟨oe,h3,h4⟩=>?_)
 have z2:IsZip g2 z p q .ellipsis:=b2 _ _ nzi z1'
 have ne:ea≠z:=fun y=>by
  rw [y,z2] at h3
  cases h3
  simp at h4
 refine wpAny_setField_rec z2 (by simp) fun g3 _ b3=>?_
 refine wpAny_bind (wpAny_isInstance (T:="StopIteration") (b:=true) ⟨oe,(b3.2 _ ne).trans h3,h4⟩ isSubtype_stop ?_)
 exact wpAny_pure (hQ g3 fun c o n n' e=>(b3.2 c n).trans (b2 _ _ n' (e1 c o n e)))
end
def ItzH (h C l m:Addr):It:=
 ⟨fun i H=>∃xs ys x y,H l=some (.lst xs)/\H m=some (.lst ys)/\xs[i]?=some x/\ys[i]?=some y,
 fun i H v H'=>∃T x y,H T=none/\v=.ref T/\H'=upd H T (.tup [x,y])/\(∀xs,H l=some (.lst xs)->xs[i]?=some x)/\∀ys,H m=some (.lst ys)->ys[i]?=some y,
 fun i H=>H h=some (jU h C)/\∃xs,H l=some (.lst xs)/\xs.length<=i⟩
theorem AbY {P:Program} {hd0:Option Value} {w:World} {K:PySem.W.Frag} {elts:List Expr} {k1:Nat} {pos:Pos} {z p q i j l m h C:Addr} (d:z≠p/\z≠q/\z≠i/\z≠j/\p≠q/\p≠i/\p≠j/\q≠i/\q≠j/\i≠j) (e0:hd0=some (.ref h)):
  xL P w K hd0 (.Tuple elts k1 pos) (ItzH h C l m) [z,p,q,i,j] z (fun k hp=>ZipL hp z p q i j l m k) where
 mem:=by simp
 obj:=fun k hp ⟨h1,h2,⟨u,v,h3⟩,⟨o1,h4,_,h4d⟩,⟨o2,h5,_,h5d⟩⟩ b hb=>by
  simp only [List.mem_cons,List.not_mem_nil,or_false] at hb
  rcases hb with rfl|rfl|rfl|rfl|rfl
  ·exact⟨_,h1,fun v z=>by cases z⟩
  ·exact⟨_,h2,fun v z=>by cases z⟩
  ·exact⟨_,h3,fun v z=>by cases z⟩
  ·exact⟨_,h4,fun v z=>by rw [h4d] at z;cases z⟩
  ·exact⟨_,h5,fun v z=>by rw [h5d] at z;cases z⟩
 keep:=fun k hp hp' ⟨h1,h2,⟨u,v,h3⟩,h4,h5⟩ kk=>⟨kk z (by simp) _ h1,kk p (by simp) _ h2,⟨u,v,kk q (by simp) _ h3⟩,h4.at fun o e=>kk i (by simp) o e,h5.at fun o e=>kk j (by simp) o e⟩
 item:=by
  intro X hP hw hK hc k pins s σ H E I hf st hg
  subst hP hw hK
  obtain⟨xs,ys,x,y,hl,hm,hx,hy⟩:=hg
  have ff:∀b ∈ [z,p,q,i,j],H b=none:=fun b hb=>(hf b hb).1
  have nl:∀b ∈ [z,p,q,i,j],l≠b:=fun b hb=>aF hl (ff b hb)
  have nm:∀b ∈ [z,p,q,i,j],m≠b:=fun b hb=>aF hm (ff b hb)
  obtain⟨a1,a2,a3,a4,a5,a6,a7,a8,a9,a0⟩:=d
  have N:ZipApart z p q i j l m:=⟨a1.symm,a2.symm,a3.symm,a4.symm,a5,a6,a7,a8,a9,a0,nl z (by simp),nl q (by simp),nl i (by simp),nl j (by simp),nm z (by simp),nm q (by simp),nm i (by simp),nm j (by simp)⟩
  obtain⟨_,its,n,r1,_,el⟩:=I.lstM hl
  obtain⟨_,its2,n2,r2,_,em⟩:=I.lstM hm
  obtain⟨u,hu,ru⟩:=r1.get hx
  obtain⟨v,hv,rv⟩:=r2.get hy
  obtain⟨hz,hp,⟨u',v',hq⟩,h1,h2⟩:=id st
  refine wpAny_pyNext_zip_item N hz hp hq h1 h2 (xs:=its.toArray) (ys:=its2.toArray) ⟨_,el,rfl,n,rfl⟩ ⟨_,em,rfl,n2,rfl⟩ (by simpa using hu) (by simpa using hv) fun g z1 q1 i1 j1 T1 sz kp=>⟨_,rfl,?_⟩
  refine wpAny_letOwnedTupleGo_zip z1 fun g2 z2 b2=>?_
  have zlt:z<s.heap.objs.size:=Heap.lt_size hz
  have T2:IsPair g2 s.heap.objs.size u v:=(b2.2 _ (Nat.ne_of_gt zlt)).trans T1
  have up:∀c o,c≠z->g.get? c=some o->g2.get? c=some o:=fun c o nc e=>(b2.2 c nc).trans e
  have k2:∀b o,b ∉ [z,p,q,i,j]->s.heap.get? b=some o->g2.get? b=some o:=fun b o hb e=>by
   have m1:b≠z:=fun y=>hb (by simp [y])
   exact up b o m1 (kp b o m1 (fun y=>hb (by simp [y])) (fun y=>hb (by simp [y])) (fun y=>hb (by simp [y])) e)
  have st2:ZipL g2 z p q i j l m (k+1):=⟨z2,up _ _ a1.symm (kp _ _ a1.symm a5 a6 a7 hp),⟨_,_,up _ _ a2.symm q1⟩,i1.at fun o e=>up _ o a3.symm e,j1.at fun o e=>up _ o a4.symm e⟩
  refine⟨.ref s.heap.objs.size,upd H s.heap.objs.size (.tup [x,y]),I.turnedL (tk:=s.toks) hf k2 (Nat.le_refl _) ⟨by show 2<=sizeLine;decide,[u,v],.cons ru (.cons rv .nil),⟨_,T2,rfl,_,rfl⟩⟩,rfl,⟨_,x,y,I.hok.fresh (Nat.le_refl _),rfl,rfl,(fun xs' h'=>by rw [hl] at h';cases h';exact hx),fun ys' h'=>by rw [hm] at h';cases h';exact hy⟩,st2,fun b hb=>?_⟩
  have lb:b<s.heap.objs.size:=by
   obtain⟨o1,h4,_⟩:=h1
   obtain⟨o2,h5,_⟩:=h2
   simp only [List.mem_cons,List.not_mem_nil,or_false] at hb
   rcases hb with rfl|rfl|rfl|rfl|rfl
   ·exact Heap.lt_size hz
   ·exact Heap.lt_size hp
   ·exact Heap.lt_size hq
   ·exact Heap.lt_size h4
   ·exact Heap.lt_size h5
  rw [aG (Nat.ne_of_lt lb)]
  exact ff b hb
 done:=by
  intro X hP hw hK hc k pins s σ H E I hf st hg
  subst hP hw hK
  obtain⟨he,xs,hl,hx⟩:=hg
  have ff:∀b ∈ [z,p,q,i,j],H b=none:=fun b hb=>(hf b hb).1
  obtain⟨_,its,n,r1,_,el⟩:=I.lstM hl
  have hlen:=r1.length
  obtain⟨a1,a2,a3,a4,_⟩:=d
  obtain⟨⟨_,nc⟩,_,_⟩:=I.hok h _ he
  exact AdR (hc.trans e0) nc a3 (aF hl (ff z (by simp))).symm (aF he (ff z (by simp))).symm (aF he (ff i (by simp))) st (xs:=its.toArray) ⟨_,el,rfl,n,rfl⟩ (by simp;omega) fun g kk=>⟨rfl,I.turnedN (tk:=s.toks) hf fun b o hb e=>kk b o (fun y=>hb (by simp [y])) (fun y=>hb (by simp [y])) e⟩
 self:=fun _ _ _ _ _ st q=>wpAny_pyIter_zip st.zp q
section
variable {X:Cx}
def iZipH (h C:Addr) (ta:TA):TI:=fun σ H R=>ta σ H fun vs H1=>∃l m xs ys,vs=[.ref l,.ref m]/\H1 l=some (.lst xs)/\H1 m=some (.lst ys)/\R (ItzH h C l m) H1
theorem pi_zipH {h C:Addr} {a b:Expr} {ta:TA} {p pos tpos:Pos} {elts:List Expr} {k1:Nat} (hA:X.A.handled=some (.ref h)) (hg:Gl X "zip") (hm:X.mg "zip"=none) (ha:PA X [a,b] ta) (hs:starEach [a,b] X.env=[(false,eval a X.env),(false,eval b X.env)]:=by rfl) (hs2:starEach [b] X.env=[(false,eval b X.env)]:=by rfl):
  PI X (.Tuple elts k1 tpos) (.Call (.Name "zip" p) [a,b] [] pos) (iZipH h C ta):=by
 intro pins s σ H R I q0
 refine Call_ (iN I hg hm AhL (PyProof.Rows.callWith_type1 (thn (ha pins s σ H _ I q0) fun us s1 ⟨vs,H1,I1,r1,q1⟩=>?_) (by rw [hs,hs2]) (by rw [hs2];rfl)))
 obtain⟨l,t,xs,ys,rfl,hl,ht,q⟩:=q1
 obtain⟨u,v,rfl,ru,rv⟩:=vals2 r1
 cases ru
 cases rv
 obtain⟨_,its,n,_,_,el⟩:=I1.lstM hl
 obtain⟨_,its2,n2,_,_,em⟩:=I1.lstM ht
 refine call_zip_2 (xs:=its.toArray) (ys:=its2.toArray) ⟨_,el,rfl,n,rfl⟩ ⟨_,em,rfl,n2,rfl⟩ fun g z1 z2 z3 z4 z5 _ kp=>?_
 refine wpAny_pyIter_zip z1 ?_
 have I2:Inv X pins σ H1 { s1 with heap:=g }:=I1.kept (t':=s1.toks) kp
 refine⟨_,[s1.heap.objs.size+4,s1.heap.objs.size+2,s1.heap.objs.size+3,s1.heap.objs.size,s1.heap.objs.size+1],_,_,H1,rfl,I2,AbY (C:=C) (l:=l) (m:=t) (five_ne _) hA,⟨z1,z2,⟨_,_,z3⟩,z4,z5⟩,fun b hb=>?_,q⟩
 have lb:s1.heap.objs.size<=b:=by
  simp only [List.mem_cons,List.not_mem_nil,or_false] at hb
  exact five_le _ _ hb
 exact I1.fpOk lb (I1.hok.fresh lb)
end
section
variable {prog:Program} {w:World} {A:Around} {E:Value->Shared->Prop} {s:Shared}
theorem unpackH {t h:Addr} {items:Array Value} {Q:List Value->Shared->Prop} (hh:A.handled=some (.ref h)) (nc:Hd.NoCtx h s.heap) (ht:IsTup s.heap t items)
  (hQ:∀g,Heap.ExtBut s.heap.objs.size s.heap g->Q items.toList { s with heap:=g }):wpAny (model prog w) A (unpackItems (.ref t) items.size none) Q E s:=by
 obtain⟨oh,fs,n1,n2⟩:=id nc
 have nt:t≠s.heap.objs.size:=by obtain⟨o,ho,_⟩:=ht;exact Nat.ne_of_lt (Heap.lt_size ho)
 have nh:h≠s.heap.objs.size:=Nat.ne_of_lt (Heap.lt_size n1)
 unfold unpackItems notIterableAtAll
 refine wpAny_bind (wpAny_bind (wpAny_specialOf ht.typeIs slot_tuple_iter.lookup (wpAny_pure ?_)))
 rw [if_neg (by simp)]
 refine wpAny_bind (wpAny_holding (iter_tuple ht (wpAny_bind (wpAny_holding (draw_tuple nt items.size 0 _ _ ⟨_,Heap.get?_push_size _ rfl,rfl,rfl⟩ (ht.push _) (by omega) fun g1 i1 b1=>?_)))))
 rw [List.drop_zero,List.take_of_length_le (by simp),if_neg (by simp)]
 refine wpAny_bind (wpAny_holding (Hd.tup_endH hh i1 ((ht.push _).extBut b1.extBut nt) (by simp) ⟨oh,fs,b1.extBut _ _ nh (Heap.get?_push_of_some _ n1),n2⟩ nh fun g2 b2=>?_))
 exact wpAny_pure (hQ g2 fun b o nb e=>b2 b o nb (b1.extBut b o nb (Heap.get?_push_of_some _ e)))
theorem assignH {env:Env} {elts:List Expr} {x1} {pos:Pos} {t h:Addr} {items:Array Value} {Q:Unit->Shared->Prop} (hh:A.handled=some (.ref h)) (nc:Hd.NoCtx h s.heap) (ht:IsTup s.heap t items)
  (hn:(assignEach elts env).length=items.size) (hstar:(assignEach elts env).findIdx? (·.1)=none)
  (q:∀g,Heap.ExtBut s.heap.objs.size s.heap g->wpAny (model prog w) A (assignInOrder ((assignEach elts env).map (·.2)) items.toList) Q E { s with heap:=g }):
  wpAny (model prog w) A (assign (.Tuple elts x1 pos) env (.ref t)) Q E s:=by
 rw [assign_Tuple]
 refine wpAny_bind (wpAny_standAt ?_)
 unfold unpack
 rw [hn,hstar]
 exact wpAny_bind (wpAny_holding (unpackH hh nc ht q))
end
section
variable {X:Cx} {pos:Pos}
def gTupH (K:PySem.W.Frag) (h C:Addr) (n:Nat) (t:TGs):TG:=fun v σ H Q=>H h=some (jU h C)/\gTup K n t v σ H Q
theorem pg_tupH {h C:Addr} {es:List Expr} {k:Nat} {t:TGs} {n:Nat} (hA:X.A.handled=some (.ref h)) (hg:PGs X es t)
  (hn:(assignEach es X.env).length=n:=by rfl) (hst:(assignEach es X.env).findIdx? (·.1)=none:=by rfl):PG X (.Tuple es k pos) (gTupH X.K h C n t):=by
 intro pins s σ H v u Q I r hw
 obtain⟨he,a,xs,e1,hq,hl,hw⟩:=hw
 subst e1
 cases r
 obtain⟨⟨_,nc⟩,_,_⟩:=I.hok h _ he
 obtain⟨its,rv,ht,hz⟩:=I.tuple hq
 refine assignH hA nc ht (by simp [hn,<- hl,rv.length]) hst fun h' hx=>?_
 have J:Inv X pins σ H { s with heap:=h' }:=I.kept (t':=s.toks) fun b o e=>hx b o (Nat.ne_of_lt (Heap.lt_size e)) e
 exact hg _ σ H xs _ Q J (by simpa using rv) hw
end
end L2
namespace Ls
open PySem L2 PySem.W
structure Wn (mg:Str->Option Value) (c:Nat->Addr):Prop where
 m0:mg "BadBound"=some (.ref (c 0))
 m1:mg "BadCut"=some (.ref (c 1))
 m2:mg "BadJoin"=some (.ref (c 2))
 m3:mg "BadLine"=some (.ref (c 3))
 m4:mg "BadMoment"=some (.ref (c 4))
 m5:mg "BadPlace"=some (.ref (c 5))
 m6:mg "BadPlan"=some (.ref (c 6))
 m7:mg "BadTelling"=some (.ref (c 7))
 m8:mg "BadWork"=some (.ref (c 8))
 m9:mg "BadWorker"=some (.ref (c 9))
 m10:mg "Down"=some (.ref (c 10))
 m11:mg "Fallen"=some (.ref (c 11))
 m12:mg "Lost"=some (.ref (c 12))
 m13:mg "NoBook"=some (.ref (c 13))
 m14:mg "NoLending"=some (.ref (c 14))
 m15:mg "NoLine"=some (.ref (c 15))
 m16:mg "NoPiece"=some (.ref (c 16))
 m17:mg "NoText"=some (.ref (c 17))
 m18:mg "Otherwise"=some (.ref (c 18))
 m19:mg "Twice"=some (.ref (c 19))
 zip:mg "zip"=none
 mV:mg "ValueError"=none
structure Wc (K:Frag) (c:Nat->Addr) (C:Addr) (j:Nat):Prop where
 e:vI K C
 n:∀i,i<20->kitOne K (.ref C) (.ref (c i))=some (decide (i=j))
 v:kitOne K (.ref C) (.type "ValueError")=some true
theorem boot_ve:bootBuiltins "ValueError"=some (.type "ValueError"):=by decide +kernel
def xQ:List Str:=["bound","cut","join","line","moment","place","plan","telling","work","worker","down"]
def xP:List Str:=["fallen","lost","book","lending","row","piece","text","otherwise","twice"]
def gE:List Str:=xQ++xP
def bsJ (j k n:Nat):List V:=(List.range' k n).map fun i=>.bl (decide (i=j))
theorem eY (j k n:Nat):(bsJ j k n).length=n:=by unfold bsJ;rw [List.length_map,List.length_range']
theorem lW (j n m:Nat):bsJ j 0 n++bsJ j n m=bsJ j 0 (n+m):=by
 unfold bsJ
 rw [<- List.map_append]
 congr 1
 have:=List.range'_append (s:=0) (m:=n) (n:=m) (step:=1)
 simpa using this
theorem bsJ_at {j i:Nat} (h:i<20):(bsJ j 0 20)[i]?=some (.bl (decide (i=j))):=by
 unfold bsJ
 rw [List.getElem?_map,List.getElem?_range' (by simpa using h)]
 simp
def rD (j i:Nat):List Str:=if j<i then [gE.getD j ""] else []
theorem AgU (j i:Nat):(rD j i).length<=20:=by unfold rD;split <;> simp
theorem AgT {j i:Nat} {wd:Str} (h:gE[i]?=some wd) (e:i=j):rD j (i+1)=rD j i++[wd]:=by
 subst e
 unfold rD
 rw [if_pos (Nat.lt_succ_self _),if_neg (Nat.lt_irrefl _),List.getD_eq_getElem?_getD,h]
 rfl
theorem fndJ_no {j i:Nat} {wd:Str} (h:gE[i]?=some wd) (e:¬ i=j):rD j (i+1)=rD j i:=by
 unfold rD
 by_cases z:j<i
 ·rw [if_pos z,if_pos (by omega)]
 ·rw [if_neg z,if_neg (by omega)]
theorem AgV {j:Nat} (h:j<20):rD j 20=[gE.getD j ""]:=if_pos h
def xU (K:Frag) (c:Nat->Addr) (ea:Addr):Sp:=fun vs H Q _=>∃(C:Addr) (j:Nat),vs=[.ref ea]/\H ea=some (jU ea C)/\Wc K c C j/\j<20/\∀H',aR H H'->Q (.str (gE.getD j "")) H'
theorem ndWO:(["_law_word_here","_law_one"]:List Str).Nodup:=by decide +kernel
section
variable {P:Program} {w:World} {K:PySem.W.Frag} {mg:Str->Option Value} {base:Heap}
theorem gT:aP ["_law_e","_law_kinds","_law_words","_law_found"] ["_law_e"] (aH sWord):=⟨rfl,rfl,rfl,by decide +kernel,rfl,by decide +kernel,by decide +kernel⟩
theorem ok_word {f:Addr} {fd:FuncData} {c:Nat->Addr} (F:Fun K "_law_word" "_law_word" sWord f fd) (G:Gb mg) (A0:Wn mg c):rO P w K mg base 1 f fd ["_law_e"] (xU K c):=by
 refine F.okH gT (fun ea vs H Q E h=>?_) (fun cdv A outer s H vs Q ea hr h=>?_)
 ·obtain⟨C,j,rfl,_⟩:=h
  rfl
 ·obtain⟨C,j,rfl,he,N,hj,t⟩:=h
  refine⟨_,(aC (aU (i:=1) gT.nd rfl (Or.inl rfl) (cN (aA (aS (r:=gG K) aW (by rfl) G.isi cH (aA (pv 0) (aA (dC (v:=.ref (c 0)) (by rfl) (A0.m0) rfl) aB))) (aA (aS (r:=gG K) aW (by rfl) G.isi cH (aA (pv 0) (aA (dC (v:=.ref (c 1)) (by rfl) (A0.m1) rfl) aB))) (aA (aS (r:=gG K) aW (by rfl) G.isi cH (aA (pv 0) (aA (dC (v:=.ref (c 2)) (by rfl) (A0.m2) rfl) aB))) (aA (aS (r:=gG K) aW (by rfl) G.isi cH (aA (pv 0) (aA (dC (v:=.ref (c 3)) (by rfl) (A0.m3) rfl) aB))) aB))))))
   (aC (aU (i:=1) gT.nd rfl (Or.inl rfl) (bU gW (pv 1) (cN (aA (aS (r:=gG K) aW (by rfl) G.isi cH (aA (pv 0) (aA (dC (v:=.ref (c 4)) (by rfl) (A0.m4) rfl) aB))) (aA (aS (r:=gG K) aW (by rfl) G.isi cH (aA (pv 0) (aA (dC (v:=.ref (c 5)) (by rfl) (A0.m5) rfl) aB))) (aA (aS (r:=gG K) aW (by rfl) G.isi cH (aA (pv 0) (aA (dC (v:=.ref (c 6)) (by rfl) (A0.m6) rfl) aB))) aB))))))
   (aC (aU (i:=1) gT.nd rfl (Or.inl rfl) (bU gW (pv 1) (cN (aA (aS (r:=gG K) aW (by rfl) G.isi cH (aA (pv 0) (aA (dC (v:=.ref (c 7)) (by rfl) (A0.m7) rfl) aB))) (aA (aS (r:=gG K) aW (by rfl) G.isi cH (aA (pv 0) (aA (dC (v:=.ref (c 8)) (by rfl) (A0.m8) rfl) aB))) (aA (aS (r:=gG K) aW (by rfl) G.isi cH (aA (pv 0) (aA (dC (v:=.ref (c 9)) (by rfl) (A0.m9) rfl) aB))) aB))))))
   (aC (aU (i:=1) gT.nd rfl (Or.inl rfl) (bU gW (pv 1) (cN (aA (aS (r:=gG K) aW (by rfl) G.isi cH (aA (pv 0) (aA (dC (v:=.ref (c 10)) (by rfl) (A0.m10) rfl) aB))) (aA (aS (r:=gG K) aW (by rfl) G.isi cH (aA (pv 0) (aA (dC (v:=.ref (c 11)) (by rfl) (A0.m11) rfl) aB))) (aA (aS (r:=gG K) aW (by rfl) G.isi cH (aA (pv 0) (aA (dC (v:=.ref (c 12)) (by rfl) (A0.m12) rfl) aB))) (aA (aS (r:=gG K) aW (by rfl) G.isi cH (aA (pv 0) (aA (dC (v:=.ref (c 13)) (by rfl) (A0.m13) rfl) aB))) aB)))))))
   (aC (aU (i:=1) gT.nd rfl (Or.inl rfl) (bU gW (pv 1) (cN (aA (aS (r:=gG K) aW (by rfl) G.isi cH (aA (pv 0) (aA (dC (v:=.ref (c 14)) (by rfl) (A0.m14) rfl) aB))) (aA (aS (r:=gG K) aW (by rfl) G.isi cH (aA (pv 0) (aA (dC (v:=.ref (c 15)) (by rfl) (A0.m15) rfl) aB))) (aA (aS (r:=gG K) aW (by rfl) G.isi cH (aA (pv 0) (aA (dC (v:=.ref (c 16)) (by rfl) (A0.m16) rfl) aB))) aB))))))
   (aC (aU (i:=1) gT.nd rfl (Or.inl rfl) (bU gW (pv 1) (cN (aA (aS (r:=gG K) aW (by rfl) G.isi cH (aA (pv 0) (aA (dC (v:=.ref (c 17)) (by rfl) (A0.m17) rfl) aB))) (aA (aS (r:=gG K) aW (by rfl) G.isi cH (aA (pv 0) (aA (dC (v:=.ref (c 18)) (by rfl) (A0.m18) rfl) aB))) (aA (aS (r:=gG K) aW (by rfl) G.isi cH (aA (pv 0) (aA (dC (v:=.ref (c 19)) (by rfl) (A0.m19) rfl) aB))) aB))))))
   (aC (aU (i:=2) gT.nd rfl (Or.inl rfl) (AaV (pcc aZ (pcc aZ (pcc aZ (pcc aZ (pcc aZ (pcc aZ (pcc aZ (pcc aZ (pcc aZ (pcc aZ (pcc aZ pcn)))))))))))))
   (aC (aU (i:=2) gT.nd rfl (Or.inl rfl) (bU gW (pv 2) (AaV (pcc aZ (pcc aZ (pcc aZ (pcc aZ (pcc aZ (pcc aZ (pcc aZ (pcc aZ (pcc aZ pcn))))))))))))
   (aC (oV (ix:=3) gT.nd rfl (Or.inl rfl) (NB:=["_law_word_here","_law_one"]) (n:=2) (js:=[]) (g:=gTupH K ea C 2 (lU (dQ 0) (lU (dQ 1) gNil))) (cl:=[]) rfl (by decide +kernel) (by decide +kernel) rfl
     (fY.of rfl cF (aQ (fun z=>nomatch z) (aQ (fun z=>nomatch z) (aQ (fun z=>nomatch z) cF))) rfl (fun k j h=>absurd h (by simp)) cF)
     (pi_zipH (h:=ea) (C:=C) hr.hd rfl A0.zip (aA (pv 2) (aA (pv 1) aB))) (fun C' s H fp pn=>pg_tupH (h:=ea) (C:=C) (n:=2) hr.hd (cX (cG (i:=0) ndWO rfl (Or.inl rfl) (.inr rfl)) (cX (cG (i:=1) ndWO rfl (Or.inl rfl) (.inr rfl)) gB))) (fun C' s H fp pn=>jP (cW (pv 1))) (fun C' s H fp pn=>pv 0))
   (aI (aY (bJ cV (bU gW (pv 3) (cN (aA aZ aB))) (bU kY (dU nX (by rfl) G.int vF (aA (pe_or (eJ AaY (aS cR (by rfl) G.len PySem.boot_len (aA (pv 3) aB)) aE (bX _)) (iJ (uR (aS (r:=gG K) aW (by rfl) G.isi cH (aA (pv 0) (aA (gC (v:=.ty "ValueError") (by rfl) A0.mV boot_ve rfl) aB)))))) aB)) (aS cR (by rfl) G.len PySem.boot_len (aA (pv 3) aB))) (fun _ _=>rfl))))))))))))),?_⟩
  have sz:∀{n:Nat},n<=1000->n<=sizeLine:=fun h=>Nat.le_of_lt (eS h)
  refine⟨_,rfl,_,_,_,_,rfl,.ref (c 0),.inr ⟨ea,C,rfl,he,N.e,N.n 0 (by decide)⟩,_,rfl,_,_,_,_,rfl,.ref (c 1),.inr ⟨ea,C,rfl,he,N.e,N.n 1 (by decide)⟩,_,rfl,_,_,_,_,rfl,.ref (c 2),.inr ⟨ea,C,rfl,he,N.e,N.n 2 (by decide)⟩,_,rfl,_,_,_,_,rfl,.ref (c 3),.inr ⟨ea,C,rfl,he,N.e,N.n 3 (by decide)⟩,sz (by show 4<=1000;decide),fun l0 n0=>?_⟩
  obtain⟨H0,hh,s0,e0⟩:=alo n0 (.lst (bsJ j 0 4))
  have hh:upd H l0 (.lst [.bl (decide (0=j)),.bl (decide (1=j)),.bl (decide (2=j)),.bl (decide (3=j))])=H0:=hh
  rw [hh]
  have S0:=s0
  have he:=s0 _ _ he
  refine⟨_,rfl,_,rfl,_,_,_,_,rfl,.ref (c 4),.inr ⟨ea,C,rfl,he,N.e,N.n 4 (by decide)⟩,_,rfl,_,_,_,_,rfl,.ref (c 5),.inr ⟨ea,C,rfl,he,N.e,N.n 5 (by decide)⟩,_,rfl,_,_,_,_,rfl,.ref (c 6),.inr ⟨ea,C,rfl,he,N.e,N.n 6 (by decide)⟩,sz (by show 3<=1000;decide),fun m1 p1=>?_⟩
  obtain⟨G1,hh,q1,f1⟩:=alo p1 (.lst (bsJ j 4 3))
  have hh:upd H0 m1 (.lst [.bl (decide (4=j)),.bl (decide (5=j)),.bl (decide (6=j))])=G1:=hh
  rw [hh]
  refine⟨l0,m1,_,_,rfl,rfl,q1 _ _ e0,f1,by rw [eY,eY];exact sz (by decide),fun l1 n1=>?_⟩
  rw [lW]
  obtain⟨H1,hh,s1,e1⟩:=alo n1 (.lst (bsJ j 0 7))
  rw [hh]
  have S1:=S0.trans (q1.trans s1)
  have he:=s1 _ _ (q1 _ _ he)
  refine⟨_,rfl,_,rfl,_,_,_,_,rfl,.ref (c 7),.inr ⟨ea,C,rfl,he,N.e,N.n 7 (by decide)⟩,_,rfl,_,_,_,_,rfl,.ref (c 8),.inr ⟨ea,C,rfl,he,N.e,N.n 8 (by decide)⟩,_,rfl,_,_,_,_,rfl,.ref (c 9),.inr ⟨ea,C,rfl,he,N.e,N.n 9 (by decide)⟩,sz (by show 3<=1000;decide),fun m2 p2=>?_⟩
  obtain⟨G2,hh,q2,f2⟩:=alo p2 (.lst (bsJ j 7 3))
  have hh:upd H1 m2 (.lst [.bl (decide (7=j)),.bl (decide (8=j)),.bl (decide (9=j))])=G2:=hh
  rw [hh]
  refine⟨l1,m2,_,_,rfl,rfl,q2 _ _ e1,f2,by rw [eY,eY];exact sz (by decide),fun l2 n2=>?_⟩
  rw [lW]
  obtain⟨H2,hh,s2,e2⟩:=alo n2 (.lst (bsJ j 0 10))
  rw [hh]
  have S2:=S1.trans (q2.trans s2)
  have he:=s2 _ _ (q2 _ _ he)
  refine⟨_,rfl,_,rfl,_,_,_,_,rfl,.ref (c 10),.inr ⟨ea,C,rfl,he,N.e,N.n 10 (by decide)⟩,_,rfl,_,_,_,_,rfl,.ref (c 11),.inr ⟨ea,C,rfl,he,N.e,N.n 11 (by decide)⟩,_,rfl,_,_,_,_,rfl,.ref (c 12),.inr ⟨ea,C,rfl,he,N.e,N.n 12 (by decide)⟩,_,rfl,_,_,_,_,rfl,.ref (c 13),.inr ⟨ea,C,rfl,he,N.e,N.n 13 (by decide)⟩,sz (by show 4<=1000;decide),fun m3 p3=>?_⟩
  obtain⟨G3,hh,q3,f3⟩:=alo p3 (.lst (bsJ j 10 4))
  have hh:upd H2 m3 (.lst [.bl (decide (10=j)),.bl (decide (11=j)),.bl (decide (12=j)),.bl (decide (13=j))])=G3:=hh
  rw [hh]
  refine⟨l2,m3,_,_,rfl,rfl,q3 _ _ e2,f3,by rw [eY,eY];exact sz (by decide),fun l3 n3=>?_⟩
  rw [lW]
  obtain⟨H3,hh,s3,e3⟩:=alo n3 (.lst (bsJ j 0 14))
  rw [hh]
  have S3:=S2.trans (q3.trans s3)
  have he:=s3 _ _ (q3 _ _ he)
  refine⟨_,rfl,_,rfl,_,_,_,_,rfl,.ref (c 14),.inr ⟨ea,C,rfl,he,N.e,N.n 14 (by decide)⟩,_,rfl,_,_,_,_,rfl,.ref (c 15),.inr ⟨ea,C,rfl,he,N.e,N.n 15 (by decide)⟩,_,rfl,_,_,_,_,rfl,.ref (c 16),.inr ⟨ea,C,rfl,he,N.e,N.n 16 (by decide)⟩,sz (by show 3<=1000;decide),fun m4 p4=>?_⟩
  obtain⟨G4,hh,q4,f4⟩:=alo p4 (.lst (bsJ j 14 3))
  have hh:upd H3 m4 (.lst [.bl (decide (14=j)),.bl (decide (15=j)),.bl (decide (16=j))])=G4:=hh
  rw [hh]
  refine⟨l3,m4,_,_,rfl,rfl,q4 _ _ e3,f4,by rw [eY,eY];exact sz (by decide),fun l4 n4=>?_⟩
  rw [lW]
  obtain⟨H4,hh,s4,e4⟩:=alo n4 (.lst (bsJ j 0 17))
  rw [hh]
  have S4:=S3.trans (q4.trans s4)
  have he:=s4 _ _ (q4 _ _ he)
  refine⟨_,rfl,_,rfl,_,_,_,_,rfl,.ref (c 17),.inr ⟨ea,C,rfl,he,N.e,N.n 17 (by decide)⟩,_,rfl,_,_,_,_,rfl,.ref (c 18),.inr ⟨ea,C,rfl,he,N.e,N.n 18 (by decide)⟩,_,rfl,_,_,_,_,rfl,.ref (c 19),.inr ⟨ea,C,rfl,he,N.e,N.n 19 (by decide)⟩,sz (by show 3<=1000;decide),fun m5 p5=>?_⟩
  obtain⟨G5,hh,q5,f5⟩:=alo p5 (.lst (bsJ j 17 3))
  have hh:upd H4 m5 (.lst [.bl (decide (17=j)),.bl (decide (18=j)),.bl (decide (19=j))])=G5:=hh
  rw [hh]
  refine⟨l4,m5,_,_,rfl,rfl,q5 _ _ e4,f5,by rw [eY,eY];exact sz (by decide),fun l5 n5=>?_⟩
  rw [lW]
  obtain⟨H5,hh,s5,e5⟩:=alo n5 (.lst (bsJ j 0 20))
  rw [hh]
  have S5:=S4.trans (q5.trans s5)
  have he:=s5 _ _ (q5 _ _ he)
  refine⟨sz (by show 11<=1000;decide),fun l6 n6=>?_⟩
  obtain⟨H6,hh,s6,e6⟩:=alo n6 (.lst (xQ.map V.str))
  have hh:upd H5 l6 (.lst [.str "bound",.str "cut",.str "join",.str "line",.str "moment",.str "place",.str "plan",.str "telling",.str "work",.str "worker",.str "down"])=H6:=hh
  rw [hh]
  refine⟨_,rfl,sz (by show 9<=1000;decide),fun l7 n7=>?_⟩
  obtain⟨H7,hh,s7,e7⟩:=alo n7 (.lst (xP.map V.str))
  have hh:upd H6 l7 (.lst [.str "fallen",.str "lost",.str "book",.str "lending",.str "row",.str "piece",.str "text",.str "otherwise",.str "twice"])=H7:=hh
  rw [hh]
  refine⟨l6,l7,_,_,rfl,rfl,s7 _ _ e6,e7,sz (by show 20<=1000;decide),fun l8 n8=>?_⟩
  obtain⟨H8,hh,s8,e8⟩:=alo n8 (.lst (gE.map V.str))
  have hh:upd H7 l8 (.lst (xQ.map V.str++xP.map V.str))=H8:=hh
  rw [hh]
  have e5:=s8 _ _ (s7 _ _ (s6 _ _ e5))
  have he:=s8 _ _ (s7 _ _ (s6 _ _ he))
  have S8:=S5.trans (s6.trans (s7.trans s8))
  refine⟨_,rfl,_,rfl,l8,l5,_,_,rfl,e8,e5,fun acc nacc=>?_⟩
  refine⟨fun i m ys G=>m=20-i/\i<=20/\ys=(rD j i).map V.str/\aR H8 G/\G acc=some (.lst ys),⟨_,rfl,Nat.zero_le _,rfl,aK nacc,aD⟩,?_⟩
  rintro i m ys G ⟨rfl,hi,rfl,sg,hA⟩
  refine⟨hA,?_⟩
  by_cases hlt:i<20
  ·obtain⟨wd,hw⟩:∃wd,gE[i]?=some wd:=⟨_,List.getElem?_eq_getElem hlt⟩
   have hwl:(gE.map V.str)[i]?=some (.str wd):=by rw [List.getElem?_map,hw];rfl
   have hbl:(bsJ j 0 20)[i]?=some (.bl (decide (i=j))):=bsJ_at hlt
   refine .inr ⟨⟨_,_,_,_,sg _ _ e8,sg _ _ e5,hwl,hbl⟩,?_⟩
   rintro x G' ⟨T,x',y',nT,rfl,rfl,h1,h2⟩
   have h1:=h1 _ (sg _ _ e8)
   have h2:=h2 _ (sg _ _ e5)
   rw [hwl] at h1
   rw [hbl] at h2
   cases h1
   cases h2
   obtain⟨G2,hh,s9,e9⟩:=alo nT (.tup [.str wd,.bl (decide (i=j))])
   rw [hh]
   refine⟨s9 _ _ (sg _ _ he),T,_,rfl,SqT.of e9,rfl,_,_,rfl,_,_,rfl,rfl,rfl,?_⟩
   refine⟨_,rfl,_,rfl,?_⟩
   have fl:(rD j i).length<=20:=AgU j i
   refine eF (fun hc=>?_) (fun hc=>?_)
   ·refine⟨_,rfl,s9 _ _ hA,by rw [List.length_map];have:=sizeLine_eq;omega,20-(i+1),by omega,rfl,hlt,?_,fun b o e=>?_,aD⟩
    ·rw [AgT hw (of_decide_eq_true hc),List.map_append]
     rfl
    ·rw [aG (aF e nacc)]
     exact s9 _ _ (sg _ _ e)
   ·refine⟨20-(i+1),by omega,rfl,hlt,?_,sg.trans s9,s9 _ _ hA⟩
    rw [fndJ_no hw (of_decide_eq_false (Bool.eq_false_iff.mpr hc))]
  have ei:i=20:=by omega
  subst ei
  refine .inl ⟨⟨sg _ _ he,_,sg _ _ e8,Nat.le_refl _⟩,?_⟩
  rw [AgV hj] at hA
  have hA:G acc=some (.lst [.str (gE.getD j "")]):=hA
  have he:=sg _ _ he
  have S9:=S8.trans sg
  refine⟨_,rfl,sz (by show 1<=1000;decide),fun la na=>?_⟩
  obtain⟨G1,hh,t1,g1⟩:=alo na (.lst [.str "other"])
  rw [hh]
  refine⟨acc,la,_,_,rfl,rfl,t1 _ _ hA,g1,sz (by show 2<=1000;decide),fun lb nb=>?_⟩
  obtain⟨G2,hh,t2,g2⟩:=alo nb (.lst [.str (gE.getD j ""),.str "other"])
  have hh:upd G1 lb (.lst ([.str (gE.getD j "")]++[.str "other"]))=G2:=hh
  rw [hh]
  have hA2:=t2 _ _ (t1 _ _ hA)
  have he2:=t2 _ _ (t1 _ _ he)
  refine⟨_,rfl,acc,_,rfl,.inl (SqL.of hA2),rfl,_,rfl,dH ?_⟩
  refine⟨_,rfl,_,_,_,_,rfl,.ty "ValueError",.inr ⟨ea,C,rfl,he2,N.e,N.v⟩,_,rfl,.inr ⟨_,rfl,?_⟩⟩
  refine⟨_,rfl,acc,_,rfl,.inl (SqL.of hA2),_,_,rfl,rfl,.inl ⟨by decide,by decide⟩,lb,_,_,_,rfl,rfl,SqL.of g2,aM (j:=0) rfl,?_⟩
  exact t _ (S9.trans (t1.trans t2))
def Mono (sp:Sp):Prop:=∀vs H (Q Q':VK) E,(∀v H',Q v H'->Q' v H')->sp vs H Q E->sp vs H Q' E
theorem AcY {CB CP T:Addr}:Mono (fU CB CP T):=fun vs H Q Q' E m h=>by
 obtain⟨b,a,pw,sh,d,sp,ev,le,nn,nt,mo,i,n,x,ps,cs,rfl,ha,hb,lc,nd,wx,hi,tb,ex,un,t⟩:=h
 exact⟨b,a,pw,sh,d,sp,ev,le,nn,nt,mo,i,n,x,ps,cs,rfl,ha,hb,lc,nd,wx,hi,tb,ex,un,fun k p c H' h1 h2 h3 h4 h5 h6=>m _ _ (t k p c H' h1 h2 h3 h4 h5 h6)⟩
theorem AcX {CB CS CP:Addr}:Mono (pM CB CS CP):=fun vs H Q Q' E m h=>by
 obtain⟨b,pw,sh,d,pw',d',nr,sp,ev,le,nn,nt,mo,tk,i,pl,ps,cs,k,p,c,ws,kvs,ns,rfl,h1,h2,h3,h4,h5,h6,h7,h8,h9,g1,g2,g3,g4,g5,g6,g7,g8,f1,f2,f3,f4,f5,t⟩:=h
 exact⟨b,pw,sh,d,pw',d',nr,sp,ev,le,nn,nt,mo,tk,i,pl,ps,cs,k,p,c,ws,kvs,ns,rfl,h1,h2,h3,h4,h5,h6,h7,h8,h9,g1,g2,g3,g4,g5,g6,g7,g8,f1,f2,f3,f4,f5,fun r H' a b c d=>m _ _ (t r H' a b c d)⟩
theorem AcW {CB CS CP:Addr}:Mono (lG CB CS CP):=fun vs H Q Q' E m h=>by
 obtain⟨b,a,nr,i,tk,pl,rfl,ha,hb,h⟩:=h
 exact⟨b,a,nr,i,tk,pl,rfl,ha,hb,AcX _ _ _ _ _ (fun _ _ z=>m _ _ z) h⟩
theorem AgA {CB CP:Addr}:Mono (jK CB CP):=fun vs H Q Q' E m h=>by
 obtain⟨b,a,n,pl,rfl,ha,hb,b',pw,sh,d,sp,ev,le,nn,nt,mo,pl',ps,cs,k,p,c,e,h1,h2,h3,h4,h5,h6,h7,h8,h9,t⟩:=h
 exact⟨b,a,n,pl,rfl,ha,hb,b',pw,sh,d,sp,ev,le,nn,nt,mo,pl',ps,cs,k,p,c,e,h1,h2,h3,h4,h5,h6,h7,h8,h9,fun q H' a b=>m _ _ (t q H' a b)⟩
def fQ (sp:Sp):Sp:=fun vs H Q _=>vs.length=2/\sp vs H (fun v H'=>v=.non/\Q (.str "ok") H') E0
def jL:Sp:=fun vs H Q _=>∃b x,vs=[b,x]/\LnV H x false/\∀H',aR H H'->Q (.str "line") H'
theorem iG:aP ["_law_book","_law_line","_law_found","_law_e"] ["_law_book","_law_line"] (aH jN):=⟨rfl,rfl,rfl,by decide +kernel,rfl,by decide +kernel,by decide +kernel⟩
theorem nG {f fD CE:Addr} {fd fdD:FuncData} {sp:Sp} (F:Fun K "_law_done_line" "_law_done_line" jN f fd) (mE:mg "LentError"=some (.ref CE)) (mono:Mono sp)
  (GD:aJ P w K mg base CX0 8 fD fdD ["book","line"] sp) (kD:keepIn K (.ref fD)=true) (bD:aO K fdD ["book","line"] []) (mD:mg "do_line"=some (.ref fD)):
  aJ P w K mg base CX0 9 f fd ["_law_book","_law_line"] (fQ sp):=by
 refine F.ok iG (fun vs H Q E h=>h.1) (fun cdv A outer s H vs Q E hr h=>?_)
 obtain⟨l,h⟩:=h
 obtain⟨b,x,rfl⟩:∃b x,vs=[b,x]:=by
  match vs,l with
  | [b,x],_=>exact⟨b,x,rfl⟩
 refine⟨_,aC (aU (i:=2) iG.nd rfl (Or.inl rfl) aZ) (aC (AaR (i:=3) (wk:=id) (fun σ h=>⟨h,Le.refl σ⟩) rfl iG.nd rfl rfl ⟨rfl,rfl⟩ (by rfl) mE
   (fun pn xe E σw hp=>aI (cJ (cB uU (aL GD hr rfl mD kD bD .nil aN (aA (pv 0) (aA (pv 1) aB))) dX (bX _)) cD bV)) (fun ea=>cD)) (aI (aY (pv 2)))),?_⟩
 refine⟨_,rfl,_,rfl,mono _ _ _ _ _ (fun v H' z=>?_) h⟩
 obtain⟨rfl,q⟩:=z
 exact⟨rfl,_,rfl,dH ⟨_,rfl,q⟩⟩
theorem zF {f fD fW CE CL:Addr} {fd fdD fdW:FuncData} {c:Nat->Addr} (F:Fun K "_law_done_line" "_law_done_line" jN f fd) (mE:mg "LentError"=some (.ref CE)) (hE:exmOne K (.ref CL) (.ref CE)=some true) (N:Wc K c CL 3)
  (GD:aJ P w K mg base (CXE P w) 2 fD fdD ["book","line"] (tS CL)) (kD:keepIn K (.ref fD)=true) (bD:aO K fdD ["book","line"] []) (mD:mg "do_line"=some (.ref fD))
  (GW:rO P w K mg base 1 fW fdW ["_law_e"] (xU K c)) (kW:keepIn K (.ref fW)=true) (bW:aO K fdW ["_law_e"] []) (mW:mg "_law_word"=some (.ref fW)):
  aJ P w K mg base CX0 9 f fd ["_law_book","_law_line"] jL:=by
 refine F.ok iG (fun vs H Q E h=>?_) (fun cdv A outer s H vs Q E hr h=>?_)
 ·obtain⟨b,x,rfl,_⟩:=h
  rfl
 obtain⟨b,x,rfl,hx,q⟩:=h
 refine⟨_,aC (aU (i:=2) iG.nd rfl (Or.inl rfl) aZ) (aC (AaR (i:=3) (wk:=id) (fun σ h=>⟨h,Le.refl σ⟩) rfl iG.nd rfl rfl ⟨rfl,rfl⟩ (by rfl) mE
   (fun pn xe E σw hp=>aI (cJ (cB uU (AcI GD (hr.mono (by decide)) rfl mD kD bD .nil hp (aA (pv 0) (aA (pv 1) aB))) dX (bX _)) cD bV))
   (fun ea=>aI (aU (i:=2) iG.nd rfl (Or.inl rfl) (AfA (h:=ea) GW ((hr.suite ea).mono (by decide)) rfl mW kW bW .nil (aA (pv 3) aB))))) (aI (aY (pv 2)))),?_⟩
 refine⟨Le.refl _,_,rfl,_,rfl,b,x,rfl,hx,?_⟩
 refine⟨CL,rfl,hE,fun ea he=>?_⟩
 have e0:(upd H ea (jU ea CL)) ea=some (jU ea CL):=aD
 have s2:aR H (upd H ea (jU ea CL)):=aK he
 generalize (upd H ea (jU ea CL))=H2 at e0 s2 ⊢
 refine⟨_,rfl,CL,3,rfl,e0,N,by decide,fun H3 s3=>?_⟩
 exact⟨_,rfl,q _ (s2.trans s3)⟩
end
end Ls
namespace L2
open PySem PySem.Spec PyProof.Rows PySem.W
section
variable {X:Cx}
def rUpper:V->List V->Hp->VK->Prop:=fun x vs H Q=>∃z y,x=.str z/\vs=[]/\Txt.upper z=y/\Builtin.Str.tooLong y.length=false/\Q (.str y) H
theorem AfZ:MtR X "str.upper" rUpper:=by
 intro pins s σ H x vs v us Q I rx rv h
 obtain⟨z,y,rfl,rfl,hy,hl,q⟩:=h
 obtain⟨t,rfl⟩:=rx
 cases rv
 exact KXw.upper hy (by rw [hy];exact hl) fun t' k=>⟨.str y,H,I.tok _,⟨_,rfl⟩,q⟩
end
end L2
namespace Ls
open PySem L2 PySem.W PySem.Spec
def Kk (w:Addr) (H H':Hp):Prop:=∀x o,x≠w->H x=some o->H' x=some o
theorem kk {w:Addr} {H H':Hp} (s:aR H H'):Kk w H H':=fun x o _ e=>s x o e
def NoW (w:Addr) (H:Hp) (v:V):Prop:=∀H',Kk w H H'->LnV H' v false
def NL (w:Addr) (H:Hp) (vs:List V):Prop:=∀v ∈ vs,NoW w H v
theorem NL.on {w:Addr} {H H':Hp} {vs:List V} (k:Kk w H H') (h:NL w H vs):NL w H' vs:=fun v hv G g=>h v hv G fun x o n e=>g x o n (k x o n e)
theorem NL.cons {w:Addr} {H:Hp} {vs:List V} {v:V} (h:NL w H vs) (n:NoW w H v):NL w H (v::vs):=aQ n h
theorem NL.app {w:Addr} {H:Hp} {vs us:List V} (h:NL w H vs) (g:NL w H us):NL w H (vs++us):=fun v hv=>(List.mem_append.mp hv).elim (h v) (g v)
theorem NL.rev {w:Addr} {H:Hp} {vs:List V} (h:NL w H vs):NL w H vs.reverse:=fun v hv=>h v (List.mem_reverse.mp hv)
theorem Wl.nt {w a:Addr} {H:Hp} {xs:List V} (h:Wl H w) (e:H a=some (.tup xs)):a≠w:=by
 obtain⟨x,y,z,q⟩:=h
 exact aX e q (by intro z;cases z)
section
variable {w a:Addr} {H:Hp} {x:V} {xs:List V} {s:Str}
theorem iL (h:Wl H w) (e:H a=some (.tup (.str s::xs))) (n:lnB s (xs.length+1)=false):NoW w H (.ref a):=fun H' k=>n ▸ LnV.tup (k _ _ (h.nt e) e)
theorem nw_nil (h:Wl H w) (e:H a=some (.tup [])):NoW w H (.ref a):=fun H' k=>.nil (k _ _ (h.nt e) e)
theorem lA (h:Wl H w) (e:H a=some (.tup (x::xs))) (k:∀H',Kk w H H'->Knd H' x) (n:∀s,x≠.str s):NoW w H (.ref a):=fun H' g=>.odd (g _ _ (h.nt e) e) (k _ g) n
theorem AfY (n:a≠w) (e:H a=some (.lst xs)):NoW w H (.ref a):=fun H' k=>.no (.lst (k _ _ n e))
theorem nw_dK {kvs:List (Key × V)} (n:a≠w) (e:H a=some (.dK kvs)):NoW w H (.ref a):=fun H' k=>.no (.dK (k _ _ n e))
theorem kw_tup (h:Wl H w) (e:H a=some (.tup xs)):∀H',Kk w H H'->Knd H' (.ref a):=fun H' k=>.tup (k _ _ (h.nt e) e)
theorem AgG (n:a≠w) (e:H a=some (.lst xs)):∀H',Kk w H H'->Knd H' (.ref a):=fun H' k=>.kn (.lst (k _ _ n e))
theorem kw_dK {kvs:List (Key × V)} (n:a≠w) (e:H a=some (.dK kvs)):∀H',Kk w H H'->Knd H' (.ref a):=fun H' k=>.kn (.dK (k _ _ n e))
end
theorem wP {s:Str} {n:Nat} (h:kdpHas gJ s=false):lnB s n=false:=by unfold lnB;rw [h];rfl
abbrev wX:List Str:=["lent","told","back","cut","join"]
abbrev Wd (s:Str) (n:Nat):Prop:=s ∈ wX/\lnB s n=true
theorem Wd.no {s:Str} {n m:Nat} (h:Wd s n) (e:m≠n):lnB s m=false:=by
 have h2:=h.2
 unfold lnB at h2 ⊢
 rw [Bool.and_eq_true] at h2
 rw [h2.1,Bool.true_and,of_decide_eq_true h2.2]
 exact decide_eq_false fun z=>e (by omega)
theorem Wd.short {s:Str} {n:Nat} (h:Wd s n):Builtin.Str.tooLong (Txt.upper s).length=false:=(by decide +kernel:∀w ∈ wX,Builtin.Str.tooLong (Txt.upper w).length=false) s h.1
theorem Wd.up {s:Str} {n m:Nat} (h:Wd s n):lnB (Txt.upper s) m=false:=wP ((by decide +kernel:∀w ∈ wX,kdpHas gJ (Txt.upper w)=false) s h.1)
theorem Wd.s {s:Str} {n m:Nat} (h:Wd s n):lnB (s++"s") m=false:=wP ((by decide +kernel:∀w ∈ wX,kdpHas gJ (w++"s")=false) s h.1)
theorem Wd.sl {s:Str} {n:Nat} (h:Wd s n):s.length+("s":Str).length<=sizeLine:=Nat.le_trans ((by decide +kernel:∀w ∈ wX,w.length+("s":Str).length<=10) s h.1) (by decide)
theorem xC {x:V} {xs:List V}:nV (x::xs) (some 1) none=xs:=by
 unfold nV
 have e1:HT.sIx (x::xs).length 0 (some 1)=1:=by
  simp only [HT.sIx]
  rw [if_neg (by decide),List.length_cons]
  show min 1 _=1
  omega
 rw [e1]
 show xs.take ((x::xs).length-1)=xs
 exact List.take_of_length_le (by simp)
theorem AhH {wd:Str} {z:Int} {ys:List V}:∃zs,nV (.str wd::.int z::ys) none (some (-1))=.str wd::zs/\zs.length=ys.length:=by
 refine⟨(V.int z::ys).take ys.length,?_,by simp⟩
 unfold nV
 have e2:HT.sIx (V.str wd::.int z::ys).length (V.str wd::.int z::ys).length (some (-1))=ys.length+1:=by
  simp only [HT.sIx,List.length_cons]
  rw [if_pos (by decide)]
  omega
 rw [e2]
 rfl
theorem wD {vs:List V} {i:Int} (h0:0<=i) (h1:i<vs.length):∃z,z ∈ vs/\atI vs i=some z:=by
 obtain⟨k,rfl⟩:=Int.eq_ofNat_of_zero_le h0
 have hk:k<vs.length:=by omega
 exact⟨vs[k],List.getElem_mem hk,aM (List.getElem?_eq_getElem hk)⟩
def lF:Sp:=fun vs H Q _=>∃(w:Addr) (mo:Int),vs=[.ref w,.int mo]/\Wl H w/\∀v H',Kp w H H'->LnV H' v false->Q v H'
section
variable {P:Program} {w:World} {K:PySem.W.Frag} {mg:Str->Option Value} {base:Heap}
theorem pX:aP ["_law_well_here","_law_moment","_law_some","_law_line","_law_odd"] ["_law_well_here","_law_moment"] (aH uH):=⟨rfl,rfl,rfl,by decide +kernel,rfl,by decide +kernel,by decide +kernel⟩
theorem AcN {f fD:Addr} {fd fdD:FuncData} (F:Fun K "_law_no_line" "_law_no_line" uH f fd) (G:Gb mg) (GD:aJ P w K mg base CX0 1 fD fdD ["_law_well_here","_law_most"] mJ) (kD:keepIn K (.ref fD)=true) (bD:aO K fdD ["_law_well_here","_law_most"] []) (mD:mg "_law_draw"=some (.ref fD)):
  aJ P w K mg base CX0 2 f fd ["_law_well_here","_law_moment"] lF:=by
 refine F.ok pX (fun vs H Q E h=>?_) (fun cdv A outer s H vs Q E hr h=>?_)
 ·obtain⟨w',mo,rfl,_⟩:=h
  rfl
 ·obtain⟨w',mo,rfl,hw,q⟩:=h
  refine⟨_,(aC (aU (i:=2) pX.nd rfl (Or.inl rfl) (cN (aA (cC (aA aZ (aA (pv 1) (aA aZ (aA aE (aA aE aB)))))) (aA (cC (aA aZ (aA (pv 1) (aA aE (aA aE (aA (cC aB) aB)))))) (aA (cC (aA aZ (aA (pv 1) (aA aE aB)))) (aA (cC (aA aZ (aA aE (aA aE aB)))) (aA (cC (aA aZ (aA aE aB))) aB)))))))
   (aC (aU (i:=3) pX.nd rfl (Or.inl rfl) (bJ cV (pv 2) (aL GD hr rfl mD kD bD .nil aN (aA (pv 0) (aA aE aB))) (fun _ _=>rfl)))
   (aC (aU (i:=4) pX.nd rfl (Or.inl rfl) (cN (aA (eG gR (pv 3) gA (eM (sQ lZ aE))) (aA (bU eO (pv 3) (cC (aA aE aB))) (aA (dU vD (by rfl) G.list boot_l (aA (pv 3) aB)) (aA (bU eO (cC (aA (AfB PySem.F.plainAttrs_str PySem.F.slot_str_upper PySem.F.type_str_upper AfZ (bJ bQ (pv 3) aE (fun _ _=>rfl))) aB)) (eG gR (pv 3) (eM aE) gA)) (aA (bU eO (cC (aA (bU zB (bJ bQ (pv 3) aE (fun _ _=>rfl)) aZ) aB)) (eG gR (pv 3) (eM aE) gA)) (aA (eG gR (pv 3) (eM aE) gA) aB))))))))
   (aC (aU (i:=4) pX.nd rfl (Or.inl rfl) (bU gW (pv 4) (cN (aA (bU eO (cC (aA dX aB)) (eG gR (pv 3) (eM aE) gA)) (aA (bU eO (cC (aA (cC (aA (bJ bQ (pv 3) aE (fun _ _=>rfl)) aB)) aB)) (eG gR (pv 3) (eM aE) gA)) (aA (bU eO (pv 3) (pv 3)) (aA (cC aB) (aA dX (aA aE (aA lR (aA (bJ bQ (pv 3) aE (fun _ _=>rfl)) (aA jE (aA (cN aB) (aA aZ aB))))))))))))))
   (aC (aU (i:=4) pX.nd rfl (Or.inl rfl) (bU gW (pv 4) (cN (aA (cC (aA aZ (aA (pv 1) (aA aZ (aA aE (aA aE aB)))))) (aA (cC (aA aZ (aA (pv 1) (aA aE (aA aE (aA (cC aB) aB)))))) (aA (bU eO (cC (aA aZ aB)) (eG gR (pv 3) (eM aE) gA)) (aA (bU eO (pv 3) (cC (aA (cC aB) aB))) aB)))))))
   (aC (aU (i:=4) pX.nd rfl (Or.inl rfl) (bU gW (pv 4) (cN (aA (bU eO (cC (aA (cN (aA (bJ bQ (pv 3) aE (fun _ _=>rfl)) aB)) aB)) (eG gR (pv 3) (eM aE) gA)) (aA (bU eO (cC (aA jE aB)) (eG gR (pv 3) (eM aE) gA)) (aA (cC (aA (cN aB) (aA aE aB))) (aA (cC (aA jE (aA aE (aA aE aB)))) aB)))))))
   (aI (aY (bJ cV (pv 4) (aL GD hr rfl mD kD bD .nil aN (aA (pv 0) (aA aE aB))) (fun _ _=>rfl)))))))))),?_⟩
  have sz:∀{n:Nat},n<=1000->n<=sizeLine:=fun h=>Nat.le_of_lt (eS h)
  have S:Kp w' H H:=Kp.refl hw
  have A:NL w' H []:=cF
  refine⟨_,rfl,sz (by show 5<=1000;decide),fun t0 nt0=>?_⟩
  obtain⟨G1,hh,sG1,et0⟩:=alo nt0 (.tup [.str "lent",.int mo,.str "ann",.int 0,.int 0])
  rw [hh]
  clear hh nt0
  have hw:=hw.same sG1
  have A:=A.on (kk sG1)
  have S:=S.same sG1
  clear sG1
  refine⟨_,rfl,sz (by show 0<=1000;decide),fun tu ntu=>?_⟩
  obtain⟨G2,hh,sG2,etu⟩:=alo ntu (.tup [])
  rw [hh]
  clear hh ntu
  have et0:=sG2 _ _ et0
  have hw:=hw.same sG2
  have A:=A.on (kk sG2)
  have S:=S.same sG2
  clear sG2
  refine⟨sz (by show 5<=1000;decide),fun t1 nt1=>?_⟩
  obtain⟨G3,hh,sG3,et1⟩:=alo nt1 (.tup [.str "told",.int mo,.int 0,.int 5,.ref tu])
  rw [hh]
  clear hh nt1
  have et0:=sG3 _ _ et0
  have hw:=hw.same sG3
  have A:=A.on (kk sG3)
  have S:=S.same sG3
  clear sG3
  refine⟨_,rfl,sz (by show 3<=1000;decide),fun t2 nt2=>?_⟩
  obtain⟨G4,hh,sG4,et2⟩:=alo nt2 (.tup [.str "back",.int mo,.int 0])
  rw [hh]
  clear hh nt2
  have et0:=sG4 _ _ et0
  have et1:=sG4 _ _ et1
  have hw:=hw.same sG4
  have A:=A.on (kk sG4)
  have S:=S.same sG4
  clear sG4
  refine⟨sz (by show 3<=1000;decide),fun t3 nt3=>?_⟩
  obtain⟨G5,hh,sG5,et3⟩:=alo nt3 (.tup [.str "cut",.int 0,.int 6])
  rw [hh]
  clear hh nt3
  have et0:=sG5 _ _ et0
  have et1:=sG5 _ _ et1
  have et2:=sG5 _ _ et2
  have hw:=hw.same sG5
  have A:=A.on (kk sG5)
  have S:=S.same sG5
  clear sG5
  refine⟨sz (by show 2<=1000;decide),fun t4 nt4=>?_⟩
  obtain⟨G6,hh,sG6,et4⟩:=alo nt4 (.tup [.str "join",.int 0])
  rw [hh]
  clear hh nt4
  have et0:=sG6 _ _ et0
  have et1:=sG6 _ _ et1
  have et2:=sG6 _ _ et2
  have et3:=sG6 _ _ et3
  have hw:=hw.same sG6
  have A:=A.on (kk sG6)
  have S:=S.same sG6
  clear sG6
  refine⟨sz (by show 5<=1000;decide),fun ls nls=>?_⟩
  have wls:ls≠w':=(hw.ne nls).symm
  obtain⟨G7,hh,sG7,els⟩:=alo nls (.lst [.ref t0,.ref t1,.ref t2,.ref t3,.ref t4])
  rw [hh]
  clear hh nls
  have et0:=sG7 _ _ et0
  have et1:=sG7 _ _ et1
  have et2:=sG7 _ _ et2
  have et3:=sG7 _ _ et3
  have et4:=sG7 _ _ et4
  have hw:=hw.same sG7
  have A:=A.on (kk sG7)
  have S:=S.same sG7
  clear sG7
  refine⟨_,rfl,_,rfl,w',5,rfl,hw,by decide,by decide,fun r0 G8 k0 a0 b0=>?_⟩
  obtain⟨v,hv,hat⟩:=wD (vs:=[V.ref t0,V.ref t1,V.ref t2,V.ref t3,V.ref t4]) a0 (by show r0<((5:Nat):Int);omega)
  refine⟨ls,_,_,_,rfl,rfl,SqL.of (k0.at_ _ _ wls els),hat,?_⟩
  obtain⟨a,wd,z,ys,rfl,hl,lk,ly⟩:∃(a:Addr) (wd:Str) (z:Int) (ys:List V),v=.ref a/\G8 a=some (.tup (.str wd::.int z::ys))/\Wd wd (ys.length+2)/\ys.length<=3:=by
   simp only [List.mem_cons,List.not_mem_nil,or_false] at hv
   rcases hv with rfl|rfl|rfl|rfl|rfl
   ·exact⟨_,_,_,_,rfl,k0.tup hw et0,(by show Wd "lent" 5;decide +kernel),(by show 3<=3;decide)⟩
   ·exact⟨_,_,_,_,rfl,k0.tup hw et1,(by show Wd "told" 5;decide +kernel),(by show 3<=3;decide)⟩
   ·exact⟨_,_,_,_,rfl,k0.tup hw et2,(by show Wd "back" 3;decide +kernel),(by show 1<=3;decide)⟩
   ·exact⟨_,_,_,_,rfl,k0.tup hw et3,(by show Wd "cut" 3;decide +kernel),(by show 1<=3;decide)⟩
   ·exact⟨_,_,_,_,rfl,k0.tup hw et4,(by show Wd "join" 2;decide +kernel),(by show 0<=3;decide)⟩
  have S:=S.trans k0
  have hw:=k0.wl
  have A:NL w' G8 []:=cF
  clear k0 et0 et1 et2 et3 et4 etu els hat hv
  have lz:∀{n:Nat},n<=100->n<=sizeLine:=fun h=>sz (by omega)
  refine⟨_,rfl,_,rfl,_,rfl,a,_,rfl,hl,fun p0 G9 sG9 ep0=>?_⟩
  have hl:=sG9 _ _ hl
  have hw:=hw.same sG9
  have A:=A.on (kk sG9)
  have S:=S.same sG9
  clear sG9
  obtain⟨zs,ez,lz0⟩:=AhH (wd:=wd) (z:=z) (ys:=ys)
  rw [ez] at ep0
  have A:=A.cons (v:=.ref p0) (iL hw ep0 (lk.no (by omega)))
  refine⟨_,rfl,sz (by show 1<=1000;decide),fun q1 nq1=>?_⟩
  obtain⟨G10,hh,sG10,eq1⟩:=alo nq1 (.tup [.int 0])
  rw [hh]
  clear hh nq1
  have hl:=sG10 _ _ hl
  have hw:=hw.same sG10
  have A:=A.on (kk sG10)
  have S:=S.same sG10
  clear sG10
  refine⟨a,q1,_,_,rfl,rfl,hl,eq1,lz (by simp;try omega),fun p1 G11 sG11 ep1=>?_⟩
  have hl:=sG11 _ _ hl
  have eq1:=sG11 _ _ eq1
  have hw:=hw.same sG11
  have A:=A.on (kk sG11)
  have S:=S.same sG11
  clear sG11
  clear eq1
  have A:=A.cons (v:=.ref p1) (iL hw ep1 (lk.no (by simp)))
  refine⟨_,rfl,a,_,rfl,.inr (SqT.of hl),fun p2 np2=>?_⟩
  have wp2:p2≠w':=(hw.ne np2).symm
  obtain⟨G12,hh,sG12,ep2⟩:=alo np2 (.lst (.str wd::.int z::ys))
  rw [hh]
  clear hh np2
  have hl:=sG12 _ _ hl
  have hw:=hw.same sG12
  have A:=A.on (kk sG12)
  have S:=S.same sG12
  clear sG12
  have A:=A.cons (v:=.ref p2) (AfY wp2 ep2)
  refine⟨_,rfl,a,_,_,_,rfl,rfl,SqT.of hl,aM (j:=0) rfl,rfl,wd,_,rfl,rfl,rfl,lk.short,sz (by show 1<=1000;decide),fun q3 nq3=>?_⟩
  obtain⟨G13,hh,sG13,eq3⟩:=alo nq3 (.tup [.str (Txt.upper wd)])
  rw [hh]
  clear hh nq3
  have hl:=sG13 _ _ hl
  have hw:=hw.same sG13
  have A:=A.on (kk sG13)
  have S:=S.same sG13
  clear sG13
  refine⟨_,rfl,_,rfl,a,_,rfl,hl,fun r3 G14 sG14 er3=>?_⟩
  have hl:=sG14 _ _ hl
  have eq3:=sG14 _ _ eq3
  have hw:=hw.same sG14
  have A:=A.on (kk sG14)
  have S:=S.same sG14
  clear sG14
  rw [xC] at er3
  refine⟨q3,r3,_,_,rfl,rfl,eq3,er3,lz (by simp;try omega),fun p3 G15 sG15 ep3=>?_⟩
  have hl:=sG15 _ _ hl
  have eq3:=sG15 _ _ eq3
  have er3:=sG15 _ _ er3
  have hw:=hw.same sG15
  have A:=A.on (kk sG15)
  have S:=S.same sG15
  clear sG15
  clear eq3 er3
  have A:=A.cons (v:=.ref p3) (iL hw ep3 lk.up)
  refine⟨_,rfl,a,_,_,_,rfl,rfl,SqT.of hl,aM (j:=0) rfl,_,_,rfl,rfl,lk.sl,sz (by show 1<=1000;decide),fun q4 nq4=>?_⟩
  obtain⟨G16,hh,sG16,eq4⟩:=alo nq4 (.tup [.str (wd++"s")])
  rw [hh]
  clear hh nq4
  have hl:=sG16 _ _ hl
  have hw:=hw.same sG16
  have A:=A.on (kk sG16)
  have S:=S.same sG16
  clear sG16
  refine⟨_,rfl,_,rfl,a,_,rfl,hl,fun r4 G17 sG17 er4=>?_⟩
  have hl:=sG17 _ _ hl
  have eq4:=sG17 _ _ eq4
  have hw:=hw.same sG17
  have A:=A.on (kk sG17)
  have S:=S.same sG17
  clear sG17
  rw [xC] at er4
  refine⟨q4,r4,_,_,rfl,rfl,eq4,er4,lz (by simp;try omega),fun p4 G18 sG18 ep4=>?_⟩
  have hl:=sG18 _ _ hl
  have eq4:=sG18 _ _ eq4
  have er4:=sG18 _ _ er4
  have hw:=hw.same sG18
  have A:=A.on (kk sG18)
  have S:=S.same sG18
  clear sG18
  clear eq4 er4
  have A:=A.cons (v:=.ref p4) (iL hw ep4 lk.s)
  refine⟨_,rfl,_,rfl,a,_,rfl,hl,fun p5 G19 sG19 ep5=>?_⟩
  have hl:=sG19 _ _ hl
  have hw:=hw.same sG19
  have A:=A.on (kk sG19)
  have S:=S.same sG19
  clear sG19
  rw [xC] at ep5
  have A:=A.cons (v:=.ref p5) (lA hw ep5 (fun _ _=>.kn (.int _)) (fun _ z=>by cases z))
  refine⟨sz (by show 6<=1000;decide),fun lo1 nlo1=>?_⟩
  have wlo1:lo1≠w':=(hw.ne nlo1).symm
  obtain⟨G20,hh,sG20,elo1⟩:=alo nlo1 (.lst [.ref p0,.ref p1,.ref p2,.ref p3,.ref p4,.ref p5])
  rw [hh]
  clear hh nlo1
  have hl:=sG20 _ _ hl
  have hw:=hw.same sG20
  have A:=A.on (kk sG20)
  have S:=S.same sG20
  clear sG20
  have AA:NL w' G20 [.ref p0,.ref p1,.ref p2,.ref p3,.ref p4,.ref p5]:=A.rev
  have A:NL w' G20 []:=cF
  refine⟨_,rfl,sz (by show 1<=1000;decide),fun q6 nq6=>?_⟩
  obtain⟨G21,hh,sG21,eq6⟩:=alo nq6 (.tup [.non])
  rw [hh]
  clear hh nq6
  have hl:=sG21 _ _ hl
  have elo1:=sG21 _ _ elo1
  have hw:=hw.same sG21
  have A:=A.on (kk sG21)
  have S:=S.same sG21
  have AA:=AA.on (kk sG21)
  clear sG21
  refine⟨_,rfl,_,rfl,a,_,rfl,hl,fun r6 G22 sG22 er6=>?_⟩
  have hl:=sG22 _ _ hl
  have elo1:=sG22 _ _ elo1
  have eq6:=sG22 _ _ eq6
  have hw:=hw.same sG22
  have A:=A.on (kk sG22)
  have S:=S.same sG22
  have AA:=AA.on (kk sG22)
  clear sG22
  rw [xC] at er6
  refine⟨q6,r6,_,_,rfl,rfl,eq6,er6,lz (by simp;try omega),fun p6 G23 sG23 ep6=>?_⟩
  have hl:=sG23 _ _ hl
  have elo1:=sG23 _ _ elo1
  have eq6:=sG23 _ _ eq6
  have er6:=sG23 _ _ er6
  have hw:=hw.same sG23
  have A:=A.on (kk sG23)
  have S:=S.same sG23
  have AA:=AA.on (kk sG23)
  clear sG23
  clear eq6 er6
  have A:=A.cons (v:=.ref p6) (lA hw ep6 (fun _ _=>.kn .non) (fun _ z=>by cases z))
  refine⟨_,rfl,a,_,_,_,rfl,rfl,SqT.of hl,aM (j:=0) rfl,sz (by show 1<=1000;decide),fun q7a nq7a=>?_⟩
  obtain⟨G24,hh,sG24,eq7a⟩:=alo nq7a (.tup [.str wd])
  rw [hh]
  clear hh nq7a
  have hl:=sG24 _ _ hl
  have elo1:=sG24 _ _ elo1
  have hw:=hw.same sG24
  have A:=A.on (kk sG24)
  have S:=S.same sG24
  have AA:=AA.on (kk sG24)
  clear sG24
  refine⟨sz (by show 1<=1000;decide),fun q7 nq7=>?_⟩
  obtain⟨G25,hh,sG25,eq7⟩:=alo nq7 (.tup [.ref q7a])
  rw [hh]
  clear hh nq7
  have hl:=sG25 _ _ hl
  have elo1:=sG25 _ _ elo1
  have eq7a:=sG25 _ _ eq7a
  have hw:=hw.same sG25
  have A:=A.on (kk sG25)
  have S:=S.same sG25
  have AA:=AA.on (kk sG25)
  clear sG25
  refine⟨_,rfl,_,rfl,a,_,rfl,hl,fun r7 G26 sG26 er7=>?_⟩
  have hl:=sG26 _ _ hl
  have elo1:=sG26 _ _ elo1
  have eq7a:=sG26 _ _ eq7a
  have eq7:=sG26 _ _ eq7
  have hw:=hw.same sG26
  have A:=A.on (kk sG26)
  have S:=S.same sG26
  have AA:=AA.on (kk sG26)
  clear sG26
  rw [xC] at er7
  refine⟨q7,r7,_,_,rfl,rfl,eq7,er7,lz (by simp;try omega),fun p7 G27 sG27 ep7=>?_⟩
  have hl:=sG27 _ _ hl
  have elo1:=sG27 _ _ elo1
  have eq7a:=sG27 _ _ eq7a
  have eq7:=sG27 _ _ eq7
  have er7:=sG27 _ _ er7
  have hw:=hw.same sG27
  have A:=A.on (kk sG27)
  have S:=S.same sG27
  have AA:=AA.on (kk sG27)
  clear sG27
  clear eq7 er7
  have A:=A.cons (v:=.ref p7) (lA hw ep7 (kw_tup hw eq7a) (fun _ z=>by cases z))
  clear eq7a
  refine⟨_,rfl,_,rfl,a,a,_,_,rfl,rfl,hl,hl,lz (by simp;try omega),fun p8 G28 sG28 ep8=>?_⟩
  have hl:=sG28 _ _ hl
  have elo1:=sG28 _ _ elo1
  have hw:=hw.same sG28
  have A:=A.on (kk sG28)
  have S:=S.same sG28
  have AA:=AA.on (kk sG28)
  clear sG28
  have A:=A.cons (v:=.ref p8) (iL hw ep8 (lk.no (by simp;try omega)))
  refine⟨sz (by show 0<=1000;decide),fun p9 np9=>?_⟩
  obtain⟨G29,hh,sG29,ep9⟩:=alo np9 (.tup [])
  rw [hh]
  clear hh np9
  have hl:=sG29 _ _ hl
  have elo1:=sG29 _ _ elo1
  have hw:=hw.same sG29
  have A:=A.on (kk sG29)
  have S:=S.same sG29
  have AA:=AA.on (kk sG29)
  clear sG29
  have A:=A.cons (v:=.ref p9) (nw_nil hw ep9)
  have A:=A.cons (v:=.non) (fun _ _=>.no .non)
  have A:=A.cons (v:=.int 5) (fun _ _=>.no (.int _))
  have A:=A.cons (v:=.bl true) (fun _ _=>.no (.bl _))
  have A:=A.cons (v:=.str wd) (fun _ _=>.no (.str _))
  refine⟨_,rfl,a,_,_,_,rfl,rfl,SqT.of hl,aM (j:=0) rfl,fun pd npd=>?_⟩
  have wpd:pd≠w':=(hw.ne npd).symm
  obtain⟨G30,hh,sG30,epd⟩:=alo npd (.dK [])
  rw [hh]
  clear hh npd
  have hl:=sG30 _ _ hl
  have elo1:=sG30 _ _ elo1
  have hw:=hw.same sG30
  have A:=A.on (kk sG30)
  have S:=S.same sG30
  have AA:=AA.on (kk sG30)
  clear sG30
  have A:=A.cons (v:=.ref pd) (nw_dK wpd epd)
  refine⟨sz (by show 0<=1000;decide),fun pl npl=>?_⟩
  have wpl:pl≠w':=(hw.ne npl).symm
  obtain⟨G31,hh,sG31,epl⟩:=alo npl (.lst [])
  rw [hh]
  clear hh npl
  have hl:=sG31 _ _ hl
  have elo1:=sG31 _ _ elo1
  have hw:=hw.same sG31
  have A:=A.on (kk sG31)
  have S:=S.same sG31
  have AA:=AA.on (kk sG31)
  clear sG31
  have A:=A.cons (v:=.ref pl) (AfY wpl epl)
  have A:=A.cons (v:=.str "") (fun _ _=>.no (.str _))
  refine⟨sz (by show 11<=1000;decide),fun lo2m nlo2m=>?_⟩
  obtain⟨G32,hh,sG32,elo2m⟩:=alo nlo2m (.lst [.ref p6,.ref p7,.ref p8,.ref p9,.non,.int 5,.bl true,.str wd,.ref pd,.ref pl,.str ""])
  rw [hh]
  clear hh nlo2m
  have hl:=sG32 _ _ hl
  have elo1:=sG32 _ _ elo1
  have hw:=hw.same sG32
  have A:=A.on (kk sG32)
  have S:=S.same sG32
  have AA:=AA.on (kk sG32)
  clear sG32
  have AN:NL w' G32 [.ref p6,.ref p7,.ref p8,.ref p9,.non,.int 5,.bl true,.str wd,.ref pd,.ref pl,.str ""]:=A.rev
  have AA:=AA.app AN
  clear AN
  refine⟨lo1,lo2m,_,_,rfl,rfl,elo1,elo2m,sz (Nat.le_of_ble_eq_true rfl),fun lo2 nlo2=>?_⟩
  have wlo2:lo2≠w':=(hw.ne nlo2).symm
  obtain⟨G33,hh,sG33,elo2⟩:=alo nlo2 (.lst ([.ref p0,.ref p1,.ref p2,.ref p3,.ref p4,.ref p5]++[.ref p6,.ref p7,.ref p8,.ref p9,.non,.int 5,.bl true,.str wd,.ref pd,.ref pl,.str ""]))
  rw [hh]
  clear hh nlo2
  have hl:=sG33 _ _ hl
  have elo1:=sG33 _ _ elo1
  have elo2m:=sG33 _ _ elo2m
  have hw:=hw.same sG33
  have A:=A.on (kk sG33)
  have S:=S.same sG33
  have AA:=AA.on (kk sG33)
  clear sG33
  clear elo1 elo2m
  have A:NL w' G33 []:=cF
  refine⟨_,rfl,_,rfl,sz (by show 5<=1000;decide),fun pa npa=>?_⟩
  obtain⟨G34,hh,sG34,epa⟩:=alo npa (.tup [.str "lend",.int mo,.str "ann",.int 0,.int 0])
  rw [hh]
  clear hh npa
  have hl:=sG34 _ _ hl
  have elo2:=sG34 _ _ elo2
  have hw:=hw.same sG34
  have A:=A.on (kk sG34)
  have S:=S.same sG34
  have AA:=AA.on (kk sG34)
  clear sG34
  have A:=A.cons (v:=.ref pa) (iL hw epa (wP (by decide +kernel)))
  refine⟨_,rfl,sz (by show 0<=1000;decide),fun qb nqb=>?_⟩
  obtain⟨G35,hh,sG35,eqb⟩:=alo nqb (.tup [])
  rw [hh]
  clear hh nqb
  have hl:=sG35 _ _ hl
  have elo2:=sG35 _ _ elo2
  have hw:=hw.same sG35
  have A:=A.on (kk sG35)
  have S:=S.same sG35
  have AA:=AA.on (kk sG35)
  clear sG35
  refine⟨sz (by show 5<=1000;decide),fun pb npb=>?_⟩
  obtain⟨G36,hh,sG36,epb⟩:=alo npb (.tup [.str "tell",.int mo,.int 0,.int 0,.ref qb])
  rw [hh]
  clear hh npb
  have hl:=sG36 _ _ hl
  have elo2:=sG36 _ _ elo2
  have hw:=hw.same sG36
  have A:=A.on (kk sG36)
  have S:=S.same sG36
  have AA:=AA.on (kk sG36)
  clear sG36
  have A:=A.cons (v:=.ref pb) (iL hw epb (wP (by decide +kernel)))
  refine⟨sz (by show 1<=1000;decide),fun qc nqc=>?_⟩
  obtain⟨G37,hh,sG37,eqc⟩:=alo nqc (.tup [.str ""])
  rw [hh]
  clear hh nqc
  have hl:=sG37 _ _ hl
  have elo2:=sG37 _ _ elo2
  have hw:=hw.same sG37
  have A:=A.on (kk sG37)
  have S:=S.same sG37
  have AA:=AA.on (kk sG37)
  clear sG37
  refine⟨_,rfl,_,rfl,a,_,rfl,hl,fun rc G38 sG38 erc=>?_⟩
  have hl:=sG38 _ _ hl
  have elo2:=sG38 _ _ elo2
  have eqc:=sG38 _ _ eqc
  have hw:=hw.same sG38
  have A:=A.on (kk sG38)
  have S:=S.same sG38
  have AA:=AA.on (kk sG38)
  clear sG38
  rw [xC] at erc
  refine⟨qc,rc,_,_,rfl,rfl,eqc,erc,lz (by simp;try omega),fun pc G39 sG39 epc=>?_⟩
  have hl:=sG39 _ _ hl
  have elo2:=sG39 _ _ elo2
  have eqc:=sG39 _ _ eqc
  have erc:=sG39 _ _ erc
  have hw:=hw.same sG39
  have A:=A.on (kk sG39)
  have S:=S.same sG39
  have AA:=AA.on (kk sG39)
  clear sG39
  clear eqc erc
  have A:=A.cons (v:=.ref pc) (iL hw epc (wP (by decide +kernel)))
  refine⟨_,rfl,sz (by show 0<=1000;decide),fun qda nqda=>?_⟩
  obtain⟨G40,hh,sG40,eqda⟩:=alo nqda (.tup [])
  rw [hh]
  clear hh nqda
  have hl:=sG40 _ _ hl
  have elo2:=sG40 _ _ elo2
  have hw:=hw.same sG40
  have A:=A.on (kk sG40)
  have S:=S.same sG40
  have AA:=AA.on (kk sG40)
  clear sG40
  refine⟨sz (by show 1<=1000;decide),fun qd nqd=>?_⟩
  obtain⟨G41,hh,sG41,eqd⟩:=alo nqd (.tup [.ref qda])
  rw [hh]
  clear hh nqd
  have hl:=sG41 _ _ hl
  have elo2:=sG41 _ _ elo2
  have hw:=hw.same sG41
  have A:=A.on (kk sG41)
  have S:=S.same sG41
  have AA:=AA.on (kk sG41)
  clear sG41
  refine⟨a,qd,_,_,rfl,rfl,hl,eqd,lz (by simp;try omega),fun pdd G42 sG42 epdd=>?_⟩
  have hl:=sG42 _ _ hl
  have elo2:=sG42 _ _ elo2
  have eqd:=sG42 _ _ eqd
  have hw:=hw.same sG42
  have A:=A.on (kk sG42)
  have S:=S.same sG42
  have AA:=AA.on (kk sG42)
  clear sG42
  clear eqd
  have A:=A.cons (v:=.ref pdd) (iL hw epdd (lk.no (by simp)))
  refine⟨sz (by show 4<=1000;decide),fun lo3m nlo3m=>?_⟩
  obtain⟨G43,hh,sG43,elo3m⟩:=alo nlo3m (.lst [.ref pa,.ref pb,.ref pc,.ref pdd])
  rw [hh]
  clear hh nlo3m
  have hl:=sG43 _ _ hl
  have elo2:=sG43 _ _ elo2
  have hw:=hw.same sG43
  have A:=A.on (kk sG43)
  have S:=S.same sG43
  have AA:=AA.on (kk sG43)
  clear sG43
  have AN:NL w' G43 [.ref pa,.ref pb,.ref pc,.ref pdd]:=A.rev
  have AA:=AA.app AN
  clear AN
  refine⟨lo2,lo3m,_,_,rfl,rfl,elo2,elo3m,sz (Nat.le_of_ble_eq_true rfl),fun lo3 nlo3=>?_⟩
  have wlo3:lo3≠w':=(hw.ne nlo3).symm
  obtain⟨G44,hh,sG44,elo3⟩:=alo nlo3 (.lst (([.ref p0,.ref p1,.ref p2,.ref p3,.ref p4,.ref p5]++[.ref p6,.ref p7,.ref p8,.ref p9,.non,.int 5,.bl true,.str wd,.ref pd,.ref pl,.str ""])++[.ref pa,.ref pb,.ref pc,.ref pdd]))
  rw [hh]
  clear hh nlo3
  have hl:=sG44 _ _ hl
  have elo2:=sG44 _ _ elo2
  have elo3m:=sG44 _ _ elo3m
  have hw:=hw.same sG44
  have A:=A.on (kk sG44)
  have S:=S.same sG44
  have AA:=AA.on (kk sG44)
  clear sG44
  clear elo2 elo3m
  have A:NL w' G44 []:=cF
  refine⟨_,rfl,_,rfl,a,_,_,_,rfl,rfl,SqT.of hl,aM (j:=0) rfl,sz (by show 1<=1000;decide),fun qea nqea=>?_⟩
  have wqea:qea≠w':=(hw.ne nqea).symm
  obtain⟨G45,hh,sG45,eqea⟩:=alo nqea (.lst [.str wd])
  rw [hh]
  clear hh nqea
  have hl:=sG45 _ _ hl
  have elo3:=sG45 _ _ elo3
  have hw:=hw.same sG45
  have A:=A.on (kk sG45)
  have S:=S.same sG45
  have AA:=AA.on (kk sG45)
  clear sG45
  refine⟨sz (by show 1<=1000;decide),fun qe nqe=>?_⟩
  obtain⟨G46,hh,sG46,eqe⟩:=alo nqe (.tup [.ref qea])
  rw [hh]
  clear hh nqe
  have hl:=sG46 _ _ hl
  have elo3:=sG46 _ _ elo3
  have eqea:=sG46 _ _ eqea
  have hw:=hw.same sG46
  have A:=A.on (kk sG46)
  have S:=S.same sG46
  have AA:=AA.on (kk sG46)
  clear sG46
  refine⟨_,rfl,_,rfl,a,_,rfl,hl,fun re G47 sG47 ere=>?_⟩
  have hl:=sG47 _ _ hl
  have elo3:=sG47 _ _ elo3
  have eqea:=sG47 _ _ eqea
  have eqe:=sG47 _ _ eqe
  have hw:=hw.same sG47
  have A:=A.on (kk sG47)
  have S:=S.same sG47
  have AA:=AA.on (kk sG47)
  clear sG47
  rw [xC] at ere
  refine⟨qe,re,_,_,rfl,rfl,eqe,ere,lz (by simp;try omega),fun pe G48 sG48 epe=>?_⟩
  have hl:=sG48 _ _ hl
  have elo3:=sG48 _ _ elo3
  have eqea:=sG48 _ _ eqea
  have eqe:=sG48 _ _ eqe
  have ere:=sG48 _ _ ere
  have hw:=hw.same sG48
  have A:=A.on (kk sG48)
  have S:=S.same sG48
  have AA:=AA.on (kk sG48)
  clear sG48
  clear eqe ere
  have A:=A.cons (v:=.ref pe) (lA hw epe (AgG wqea eqea) (fun _ z=>by cases z))
  clear eqea
  intro qfa nqfa
  have wqfa:qfa≠w':=(hw.ne nqfa).symm
  obtain⟨G49,hh,sG49,eqfa⟩:=alo nqfa (.dK [])
  rw [hh]
  clear hh nqfa
  have hl:=sG49 _ _ hl
  have elo3:=sG49 _ _ elo3
  have hw:=hw.same sG49
  have A:=A.on (kk sG49)
  have S:=S.same sG49
  have AA:=AA.on (kk sG49)
  clear sG49
  refine⟨sz (by show 1<=1000;decide),fun qf nqf=>?_⟩
  obtain⟨G50,hh,sG50,eqf⟩:=alo nqf (.tup [.ref qfa])
  rw [hh]
  clear hh nqf
  have hl:=sG50 _ _ hl
  have elo3:=sG50 _ _ elo3
  have eqfa:=sG50 _ _ eqfa
  have hw:=hw.same sG50
  have A:=A.on (kk sG50)
  have S:=S.same sG50
  have AA:=AA.on (kk sG50)
  clear sG50
  refine⟨_,rfl,_,rfl,a,_,rfl,hl,fun rf G51 sG51 erf=>?_⟩
  have hl:=sG51 _ _ hl
  have elo3:=sG51 _ _ elo3
  have eqfa:=sG51 _ _ eqfa
  have eqf:=sG51 _ _ eqf
  have hw:=hw.same sG51
  have A:=A.on (kk sG51)
  have S:=S.same sG51
  have AA:=AA.on (kk sG51)
  clear sG51
  rw [xC] at erf
  refine⟨qf,rf,_,_,rfl,rfl,eqf,erf,lz (by simp;try omega),fun pf_ G52 sG52 epf_=>?_⟩
  have hl:=sG52 _ _ hl
  have elo3:=sG52 _ _ elo3
  have eqfa:=sG52 _ _ eqfa
  have eqf:=sG52 _ _ eqf
  have erf:=sG52 _ _ erf
  have hw:=hw.same sG52
  have A:=A.on (kk sG52)
  have S:=S.same sG52
  have AA:=AA.on (kk sG52)
  clear sG52
  clear eqf erf
  have A:=A.cons (v:=.ref pf_) (lA hw epf_ (kw_dK wqfa eqfa) (fun _ z=>by cases z))
  clear eqfa
  refine⟨sz (by show 0<=1000;decide),fun qga nqga=>?_⟩
  have wqga:qga≠w':=(hw.ne nqga).symm
  obtain⟨G53,hh,sG53,eqga⟩:=alo nqga (.lst [])
  rw [hh]
  clear hh nqga
  have hl:=sG53 _ _ hl
  have elo3:=sG53 _ _ elo3
  have hw:=hw.same sG53
  have A:=A.on (kk sG53)
  have S:=S.same sG53
  have AA:=AA.on (kk sG53)
  clear sG53
  refine⟨sz (by show 2<=1000;decide),fun pg npg=>?_⟩
  obtain⟨G54,hh,sG54,epg⟩:=alo npg (.tup [.ref qga,.int 0])
  rw [hh]
  clear hh npg
  have hl:=sG54 _ _ hl
  have elo3:=sG54 _ _ elo3
  have eqga:=sG54 _ _ eqga
  have hw:=hw.same sG54
  have A:=A.on (kk sG54)
  have S:=S.same sG54
  have AA:=AA.on (kk sG54)
  clear sG54
  have A:=A.cons (v:=.ref pg) (lA hw epg (AgG wqga eqga) (fun _ z=>by cases z))
  clear eqga
  intro qha nqha
  have wqha:qha≠w':=(hw.ne nqha).symm
  obtain⟨G55,hh,sG55,eqha⟩:=alo nqha (.dK [])
  rw [hh]
  clear hh nqha
  have hl:=sG55 _ _ hl
  have elo3:=sG55 _ _ elo3
  have hw:=hw.same sG55
  have A:=A.on (kk sG55)
  have S:=S.same sG55
  have AA:=AA.on (kk sG55)
  clear sG55
  refine⟨sz (by show 3<=1000;decide),fun ph nph=>?_⟩
  obtain⟨G56,hh,sG56,eph⟩:=alo nph (.tup [.ref qha,.int 0,.int 0])
  rw [hh]
  clear hh nph
  have hl:=sG56 _ _ hl
  have elo3:=sG56 _ _ elo3
  have eqha:=sG56 _ _ eqha
  have hw:=hw.same sG56
  have A:=A.on (kk sG56)
  have S:=S.same sG56
  have AA:=AA.on (kk sG56)
  clear sG56
  have A:=A.cons (v:=.ref ph) (lA hw eph (kw_dK wqha eqha) (fun _ z=>by cases z))
  clear eqha
  refine⟨sz (by show 4<=1000;decide),fun lo4m nlo4m=>?_⟩
  obtain⟨G57,hh,sG57,elo4m⟩:=alo nlo4m (.lst [.ref pe,.ref pf_,.ref pg,.ref ph])
  rw [hh]
  clear hh nlo4m
  have hl:=sG57 _ _ hl
  have elo3:=sG57 _ _ elo3
  have hw:=hw.same sG57
  have A:=A.on (kk sG57)
  have S:=S.same sG57
  have AA:=AA.on (kk sG57)
  clear sG57
  have AN:NL w' G57 [.ref pe,.ref pf_,.ref pg,.ref ph]:=A.rev
  have AA:=AA.app AN
  clear AN
  refine⟨lo3,lo4m,_,_,rfl,rfl,elo3,elo4m,sz (Nat.le_of_ble_eq_true rfl),fun lo4 nlo4=>?_⟩
  have wlo4:lo4≠w':=(hw.ne nlo4).symm
  obtain⟨G58,hh,sG58,elo4⟩:=alo nlo4 (.lst ((([.ref p0,.ref p1,.ref p2,.ref p3,.ref p4,.ref p5]++[.ref p6,.ref p7,.ref p8,.ref p9,.non,.int 5,.bl true,.str wd,.ref pd,.ref pl,.str ""])++[.ref pa,.ref pb,.ref pc,.ref pdd])++[.ref pe,.ref pf_,.ref pg,.ref ph]))
  rw [hh]
  clear hh nlo4
  have hl:=sG58 _ _ hl
  have elo3:=sG58 _ _ elo3
  have elo4m:=sG58 _ _ elo4m
  have hw:=hw.same sG58
  have A:=A.on (kk sG58)
  have S:=S.same sG58
  have AA:=AA.on (kk sG58)
  clear sG58
  clear elo3 elo4m
  have A:NL w' G58 []:=cF
  refine⟨_,rfl,_,rfl,w',25,rfl,hw,by decide,by decide,fun r1 HZ kz a1 b1=>?_⟩
  obtain⟨v,hv,hat⟩:=wD (vs:=((([V.ref p0,V.ref p1,V.ref p2,V.ref p3,V.ref p4,V.ref p5]++[V.ref p6,V.ref p7,V.ref p8,V.ref p9,V.non,V.int 5,V.bl true,V.str wd,V.ref pd,V.ref pl,V.str ""])++[V.ref pa,V.ref pb,V.ref pc,V.ref pdd])++[V.ref pe,V.ref pf_,V.ref pg,V.ref ph])) a1 (by show r1<((25:Nat):Int);omega)
  refine⟨lo4,_,_,_,rfl,rfl,SqL.of (kz.at_ _ _ wlo4 elo4),hat,?_⟩
  exact q v _ (S.trans kz) (AA v hv _ kz.at_)
end
end Ls
namespace L2
open PySem PySem.Spec PyProof.Rows PySem.W
theorem SqL.sameT {K:Frag} {H H':Hp} {a:Addr} {xs:List V} (e:dO H H') (h:SqL K H a xs):SqL K H' a xs:=by
 rcases h with (h|⟨o,h⟩)|h
 ·exact .inl (.inl (e.at h))
 ·exact .inl (.inr ⟨o,e.at h⟩)
 ·exact .inr h
theorem SqT.sameT {K:Frag} {H H':Hp} {a:Addr} {xs:List V} (e:dO H H') (h:SqT K H a xs):SqT K H' a xs:=by
 rcases h with (h|⟨o,h⟩)|h
 ·exact .inl (.inl (e.at h))
 ·exact .inl (.inr ⟨o,e.at h⟩)
 ·exact .inr h
mutual
theorem RdV.sameT {K:Frag} {H H':Hp} (e:dO H H'):∀{x:V} {d:PyData},RdV K H x d->RdV K H' x d
 | _,_,.non=>.non
 | _,_,.bl b=>.bl b
 | _,_,.int i=>.int i
 | _,_,.str x=>.str x
 | _,_,.lst q r=>.lst (q.sameT e) (gL.sameT e r)
 | _,_,.tup q r=>.tup (q.sameT e) (gL.sameT e r)
theorem gL.sameT {K:Frag} {H H':Hp} (e:dO H H'):∀{xs:List V} {ds:List PyData},gL K H xs ds->gL K H' xs ds
 | _,_,.nil=>.nil
 | _,_,.cons a b=>.cons (RdV.sameT e a) (gL.sameT e b)
end
theorem Tab.keep {H H':Hp} {T T2:Addr} {pos:Pos} {q:Str} (n:T2≠T) {ps:Array Value} (hT:H T=some (.tbl ps)) (k:cQ T H H') (t:Tab H T2 pos q):Tab H' T2 pos q:=by
 obtain⟨qs,a,b,c⟩:=t
 refine⟨qs,k _ _ n a,b,?_⟩
 rcases c with c|⟨c',c1,c2⟩
 ·exact .inl c
 ·exact .inr ⟨c',c1,k _ _ (aX c2 hT (by intro z;cases z)) c2⟩
end L2
namespace Ls
open PySem L2 PySem.W
theorem cO.sameT {C:Addr} {H H':Hp} {p pw d:Addr} {ws:Lm.Ps} {kvs:List (Key × V)} (e:dO H H') (h:cO C H p pw d ws kvs):cO C H' p pw d ws kvs:=by
 obtain⟨⟨dx,h1⟩,⟨xs,h2,h3⟩,h4⟩:=h
 exact⟨⟨dx,e.at h1⟩,⟨xs,e.at h2,bY (fun v q ⟨b,z1,z2⟩=>⟨b,z1,e.at z2⟩) h3⟩,e.at h4⟩
structure Bk (CB CS CP:Addr) (H:Hp) (b pw sh d pw' d':Addr) (sp ev le nn nt mo:Int) (ps:List Addr) (cs:List Pc) (ws:Lm.Ps) (kvs:List (Key × V)) (ns:List Int):Prop where
 bk:eR CB CP H b pw sh d sp ev le nn nt mo ps cs
 st:cO CS H sh pw' d' ws kvs
 hd:Holds (fun _=>7) kvs ns
 sw:Lm.Sh ws
 lw:ws.length<=64
 lc:cs.length<64
 so:∀c ∈ cs,∀t,c.o=some t->PyData.strOk t.2.1=true
theorem Bk.sameT {CB CS CP:Addr} {H H':Hp} {b pw sh d pw' d':Addr} {sp ev le nn nt mo:Int} {ps:List Addr} {cs:List Pc} {ws:Lm.Ps} {kvs:List (Key × V)} {ns:List Int} (e:dO H H') (h:Bk CB CS CP H b pw sh d pw' d' sp ev le nn nt mo ps cs ws kvs ns):Bk CB CS CP H' b pw sh d pw' d' sp ev le nn nt mo ps cs ws kvs ns:=
 ⟨h.bk.sameT e,h.st.sameT e,h.hd,h.sw,h.lw,h.lc,h.so⟩
def lendD:Option (Int × Str × Int)->PyData
 | none=>.none
 | some (t,x,u)=>.tuple [.int t,.str x,.int u]
def pcD (c:Pc):PyData:=.tuple [.int c.n,.int c.l,.int c.h,.int c.m,lendD c.o]
def rowI (f:Int->Int) (l:Int) (n:Nat):List Int:=(List.range n).map fun(i:Nat)=>f (l+(i:Int))
def itemD (f:Int->Int) (q:Int × Int):PyData:=.tuple [.int q.1,.tuple ((rowI f q.1 (q.2-q.1).toNat).map PyData.int)]
theorem sO {K:Frag} {H:Hp}:∀ns:List Int,gL K H (ns.map V.int) (ns.map PyData.int)
 | []=>.nil
 | n::ns=>.cons (.int n) (sO ns)
theorem qH {K:Frag} {H:Hp} {f:Int->Int}:∀{xs:List V} {ds:Lm.Ps},Paired (oA f H) xs ds->gL K H xs (ds.map (itemD f))
 | _,_,.nil=>.nil
 | _,_,.cons ⟨b,c,e,h1,h2⟩ t=>.cons (e ▸ .tup (SqT.of h1) (.cons (.int _) (.cons (.tup (SqT.of h2) (sO _)) .nil))) (qH t)
theorem AgF {K:Frag} {H:Hp} {lv:V} {o:Option (Int × Str × Int)} (h:jW H lv o):RdV K H lv (lendD o):=by
 cases o with
 | none=>
  cases lv <;> first|exact .non|exact h.elim
 | some t=>
  cases lv with
  | ref q=>exact .tup (SqT.of h) (.cons (.int _) (.cons (.str _) (.cons (.int _) .nil)))
  | _=>exact h.elim
theorem sN {K:Frag} {H:Hp}:∀{xs:List V} {cs:List Pc},Paired (lY H) xs cs->gL K H xs (cs.map pcD)
 | _,_,.nil=>.nil
 | _,_,.cons ⟨t,lv,e,h1,h2⟩ r=>.cons (e ▸ .tup (SqT.of h1) (.cons (.int _) (.cons (.int _) (.cons (.int _) (.cons (.int _) (.cons (AgF h2) .nil)))))) (sN r)
def vT (cs:List Pc) (ds lf:Lm.Ps) (mo:Int):PyData:=.list [.list (cs.map pcD),.list (ds.map (itemD fun _=>7)),workD lf,.int mo]
def lB (cs:List Pc) (ws:Lm.Ps) (ns:List Int) (mo:Int) (D:PyData):Prop:=∃(cs':List Pc) (ds lf:Lm.Ps),D=vT cs' ds lf mo/\cs'.Perm cs/\cs'.Pairwise (fun x y=>x.l<=y.l)/\Lm.Sh ds/\(∀x,Lm.mem ds x↔x ∈ ns)/\Lm.Sh lf/\∀x,Lm.mem lf x↔Lm.mem ws x/\¬ x ∈ ns
theorem wE {α:Type} {k:α->Int}:∀{xs ys:List α},xs.Perm ys->xs.Pairwise (fun a b=>k a<=k b)->ys.Pairwise (fun a b=>k a<=k b)->(xs.map k).Nodup->xs=ys
 | [],ys,p,_,_,_=>(List.nil_perm.mp p).symm
 | x::xs,[],p,_,_,_=>absurd p.length_eq (by simp)
 | x::xs,y::ys,p,h1,h2,nd=>by
  obtain⟨a1,a2⟩:=List.pairwise_cons.mp h1
  obtain⟨b1,b2⟩:=List.pairwise_cons.mp h2
  rw [List.map_cons,List.nodup_cons] at nd
  have e:x=y:=by
   rcases List.mem_cons.mp (p.mem_iff.mp List.mem_cons_self) with z|z
   ·exact z
   ·rcases List.mem_cons.mp (p.mem_iff.mpr (List.mem_cons_self (a:=y) (l:=ys))) with z' | z'
    ·exact z'.symm
    ·have:=a1 y z'
     have:=b1 x z
     exact absurd (List.mem_map_of_mem (f:=k) z') (by rw [show k y=k x by omega];exact nd.1)
  subst e
  rw [wE ((List.perm_cons x).mp p) a2 b2 nd.2]
theorem AeE {cs:List Pc} {ws:Lm.Ps} {ns:List Int} {mo:Int} {D D':PyData} (nd:(cs.map Pc.l).Nodup) (h:lB cs ws ns mo D) (g:lB cs ws ns mo D'):D=D':=by
 obtain⟨c1,d1,l1,rfl,a1,a2,a3,a4,a5,a6⟩:=h
 obtain⟨c2,d2,l2,rfl,b1,b2,b3,b4,b5,b6⟩:=g
 rw [wE (k:=Pc.l) (a1.trans b1.symm) a2 b2 ((a1.map _).nodup_iff.mpr nd),Lm.sh_same a3 b3 fun x=>(a4 x).trans (b4 x).symm,Lm.sh_same a5 b5 fun x=>(a6 x).trans (b6 x).symm]
theorem AaL {cs:List Pc} {ws:Lm.Ps} {ns:List Int} {mo:Int} {D:PyData} (so:∀c ∈ cs,∀t,c.o=some t->PyData.strOk t.2.1=true) (h:lB cs ws ns mo D):Gd 4 D:=by
 obtain⟨c1,d1,l1,rfl,a1,_⟩:=h
 refine Gd.lst (dP (Gd.lst (n:=2) fun d hd=>?_) (dP (Gd.lst (n:=2) fun d hd=>?_) (dP (Gd.mono (Gd.tup (AgP (n:=0) l1)) (by decide)) (dP (Gd.int _) rB))))
 ·obtain⟨c,hc,rfl⟩:=List.mem_map.mp hd
  refine Gd.tup (dP (Gd.int _) (dP (Gd.int _) (dP (Gd.int _) (dP (Gd.int _) (dP ?_ rB)))))
  cases e:c.o with
  | none=>exact Gd.non
  | some t=>exact Gd.tup (dP (Gd.int _) (dP (Gd.str (n:=0) (so c (a1.mem_iff.mp hc) t e)) (dP (Gd.int _) rB)))
 ·obtain⟨q,_,rfl⟩:=List.mem_map.mp hd
  refine Gd.tup (n:=1) (dP (Gd.int _) (dP (Gd.tup (n:=0) fun e he=>?_) rB))
  obtain⟨z,_,rfl⟩:=List.mem_map.mp he
  exact Gd.int z
def tO (K:Frag) (CB CS CP T:Addr):Sp:=fun vs H Q _=>∃(b pw sh d pw' d':Addr) (sp ev le nn nt mo:Int) (ps:List Addr) (cs:List Pc) (ws:Lm.Ps) (kvs:List (Key × V)) (ns:List Int),vs=[.ref b]/\Bk CB CS CP H b pw sh d pw' d' sp ev le nn nt mo ps cs ws kvs ns/\Tab H T wH lS /\
 ∀(r:Addr) (D:PyData) (H':Hp),cQ T H H'->Tab H' T wH lS->RdV K H' (.ref r) D->lB cs ws ns mo D->Q (.ref r) H'
section
variable {P:Program} {w:World} {K:PySem.W.Frag} {mg:Str->Option Value} {base:Heap}
theorem scSeen:aP ["_law_book"] ["_law_book"] (aH sSeen):=⟨rfl,rfl,rfl,by decide +kernel,rfl,by decide +kernel,by decide +kernel⟩
theorem ok_seen {f CB CS CP T fP fA fL fN:Addr} {fd fdP fdA fdL fdN:FuncData} (F:Fun K "_law_seen" "_law_seen" sSeen f fd) (TB:Bl K mg CB)
  (GP:aJ P w K mg base CX0 8 fP fdP ["self"] (lE CB CP T)) (bP:aO K fdP ["self"] []) (mP:dE K CB "pieces" fP)
  (GA:aJ P w K mg base CX0 8 fA fdA ["self"] (sJ CB CS fun vs H Q _=>vP (fun _=>7) CS vs H Q E0)) (bA:aO K fdA ["self"] []) (mA:dE K CB "all_results" fA)
  (GL:aJ P w K mg base CX0 8 fL fdL ["self"] (sJ CB CS fun vs H Q _=>pP CS vs H Q E0)) (bL:aO K fdL ["self"] []) (mL:dE K CB "left_work" fL)
  (GN:aJ P w K mg base CX0 8 fN fdN ["self"] (vO CB)) (bN:aO K fdN ["self"] []) (mN:dE K CB "moment_now" fN):
  aJ P w K mg base CX0 9 f fd ["_law_book"] (tO K CB CS CP T):=by
 refine F.ok scSeen (fun vs H Q E h=>?_) (fun cdv A outer s H vs Q E hr h=>?_)
 ·obtain⟨b,pw,sh,d,pw',d',sp,ev,le,nn,nt,mo,ps,cs,ws,kvs,ns,rfl,_⟩:=h
  rfl
 ·obtain⟨b,pw,sh,d,pw',d',sp,ev,le,nn,nt,mo,ps,cs,ws,kvs,ns,rfl,B,tb,t⟩:=h
  refine⟨_,aI (aY (cN (aA (cM (pv 0) TB.cl mP GP hr bP .nil aN) (aA (cM (pv 0) TB.cl mA GA hr bA .nil aN) (aA (cM (pv 0) TB.cl mL GL hr bL .nil aN) (aA (cM (pv 0) TB.cl mN GN hr bN .nil aN) aB)))))),?_⟩
  obtain⟨dx,hbo⟩:=B.bk.ob
  have lc:=B.lc
  refine⟨_,rfl,b,dx,_,rfl,hbo,rfl,b,pw,sh,d,sp,ev,le,nn,nt,mo,ps,cs,rfl,B.bk,by omega,tb,fun r1 H1 rs cs' k1 _ tb1 e1 pm so pr=>?_⟩
  have st:=cQ.t tb k1
  have B1:=B.sameT st
  have hb1:=st.at hbo
  refine⟨_,rfl,b,dx,_,rfl,hb1,rfl,b,pw,sh,d,pw',d',sp,ev,le,nn,nt,mo,ws,kvs,rfl,⟨dx,hb1⟩,B1.st,sh,pw',d',ws,kvs,ns,rfl,B1.st,B1.hd,fun r2 ds xs H2 s2 _ e2 pi sd md _=>?_⟩
  have B2:=B1.sameT (aR.toT s2)
  have hb2:=s2 _ _ hb1
  refine⟨_,rfl,b,dx,_,rfl,hb2,rfl,b,pw,sh,d,pw',d',sp,ev,le,nn,nt,mo,ws,kvs,rfl,⟨dx,hb2⟩,B2.st,sh,pw',d',ws,kvs,ns,rfl,B2.st,B2.sw,B2.lw,B2.hd.key,B2.hd.nd,B2.hd.len,fun r3 lf H3 s3 wm sl ml _=>?_⟩
  have hb3:=s3 _ _ hb2
  refine⟨_,rfl,b,dx,_,rfl,hb3,rfl,b,pw,sh,d,sp,ev,le,nn,nt,mo,rfl,⟨dx,hb3⟩,by show 4<=sizeLine;decide,fun r nr=>?_⟩
  have s4:aR H3 (upd H3 r (.lst [.ref r1,.ref r2,.ref r3,.int mo])):=aK nr
  have s34:=s3.trans s4
  refine t r (vT cs' ds lf mo) _ ((k1.same (s2.trans s3)).same s4) (tb1.same (s2.trans s34)) ?_ ⟨cs',ds,lf,rfl,pm,so,sd,md,sl,ml⟩
  obtain⟨ys,y1,y2⟩:=wm
  refine .lst (SqL.of aD) (.cons (.lst (SqL.of ((s2.trans s34) _ _ e1)) (sN (bY (fun _ _ z=>z.same (s2.trans s34)) pr))) (.cons (.lst (SqL.of (s34 _ _ e2)) (qH (bY (fun _ _ z=>z.same s34) pi))) (.cons (.tup (SqT.of (s4 _ _ y1)) (qG (bY (fun v q ⟨b,z1,z2⟩=>⟨b,z1,s4 _ _ z2⟩) y2))) (.cons (.int _) .nil))))
end
end Ls
namespace L2
open PySem PySem.Spec PyProof.Rows PySem.W
theorem filtW {α:Type} {J:It} {H1:Hp} {acc:Addr} (na:H1 acc=none) (xs:List α) (val out:α->V) (pm:α->Bool) (ln:xs.length<=4000)
  (go:∀G i,aR H1 G->i<xs.length->J.go i G) (stop:∀G,aR H1 G->J.stop xs.length G) (yld:∀G i x G',aR H1 G->J.yld i G x G'->G'=G/\∃z,xs[i]?=some z/\x=val z):
  ∃W:Nat->Nat->List V->Hp->Prop,(∃m,W 0 m [] (upd H1 acc (.lst [])))/\∀i m ys G,W i m ys G->(G acc=some (.lst ys)/\aR H1 G)/\((J.stop i G/\ys=(xs.filter pm).map out) \/
   (J.go i G/\∀x G',J.yld i G x G'->G'=G/\∃z,z ∈ xs/\x=val z/\ys.length<sizeLine/\(pm z=true->∃m',m'<m/\W (i+1) m' (ys++[out z]) (upd G acc (.lst (ys++[out z]))))/\(¬ pm z=true->∃m',m'<m/\W (i+1) m' ys G))):=by
 have sl:sizeLine=16777216:=sizeLine_eq
 refine⟨fun i m ys G=>m=xs.length-i/\i<=xs.length/\ys=((xs.take i).filter pm).map out/\aR H1 G/\G acc=some (.lst ys),⟨_,rfl,Nat.zero_le _,rfl,aK na,aD⟩,?_⟩
 rintro i m ys G ⟨rfl,hi,rfl,sg,hA⟩
 refine⟨⟨hA,sg⟩,?_⟩
 by_cases hlt:i<xs.length
 ·refine .inr ⟨go G i sg hlt,fun x G' hy=>?_⟩
  obtain⟨rfl,z,hz,rfl⟩:=yld _ _ _ _ sg hy
  have tk:xs.take (i+1)=xs.take i++[z]:=by rw [List.take_add_one,hz];rfl
  have lf:(((xs.take i).filter pm).map out).length<=i:=by
   rw [List.length_map]
   exact Nat.le_trans (List.length_filter_le _ _) (by rw [List.length_take];omega)
  refine⟨rfl,z,List.mem_of_getElem? hz,rfl,by omega,fun hf=>?_,fun hf=>?_⟩
  ·refine⟨xs.length-(i+1),by omega,rfl,hlt,?_,fun b o e=>?_,aD⟩
   ·rw [tk,List.filter_append,List.map_append]
    simp [hf]
   ·rw [aG (aF e na)]
    exact sg _ _ e
  ·refine⟨xs.length-(i+1),by omega,rfl,hlt,?_,sg,hA⟩
   rw [tk,List.filter_append,List.map_append]
   simp [hf]
 have e:i=xs.length:=by omega
 subst e
 rw [List.take_length] at hA ⊢
 exact .inl ⟨stop _ sg,rfl⟩
theorem AdF {K:Frag} {α:Type} {H1:Hp} {la:Addr} {xs:List α} {val:α->V} (e:H1 la=some (.lst (xs.map val))):
  (∀G i,aR H1 G->i<xs.length->(Itl K la).go i G)/\(∀G,aR H1 G->(Itl K la).stop xs.length G)/\∀G i x G',aR H1 G->(Itl K la).yld i G x G'->G'=G/\∃z,xs[i]?=some z/\x=val z:=by
 refine⟨fun G i sg hi=>⟨_,_,SqL.of (sg _ _ e),by rw [List.getElem?_map,List.getElem?_eq_getElem hi];rfl⟩,fun G sg=>⟨_,SqL.of (sg _ _ e),by rw [List.length_map];exact Nat.le_refl _⟩,fun G i x G' sg hy=>?_⟩
 obtain⟨rfl,hx⟩:=hy
 have hx:=hx _ (SqL.of (sg _ _ e))
 rw [List.getElem?_map] at hx
 cases hz:xs[i]? with
 | none=>rw [hz] at hx;cases hx
 | some z=>
  rw [hz] at hx
  cases hx
  exact⟨rfl,z,rfl,rfl⟩
end L2
namespace Ls
open PySem L2 PySem.W
structure Pu (a:Lm.Ps) (j:Nat) (nt:Int) (cs:List Pc) (ws:Lm.Ps) (ns:List Int):Prop where
 lh:cs.map (fun c=>(c.l,c.h))=a
 nm:cs.map Pc.n=(List.range a.length).map Int.ofNat
 lm:∀c ∈ cs,c.l<=c.m/\c.m<=c.h/\c.m<=c.l+j
 op:∀c ∈ cs,∀t,c.o=some t->t.1<nt/\t.2.1="zoe"/\c.m<c.h
 nx:∀x,x ∈ ns↔∃c ∈ cs,c.l<=x/\x<c.m
 nl:ns.length<=j
 wk:Lm.Wk a
 wm:∀x,Lm.mem ws x↔Lm.mem a x
 bd:∀q ∈ a,-(2 ^ 60)<=q.1/\q.2<=2 ^ 60
 la:a.length<=6
 lw:ws.length<=6
 n0:0<=nt
theorem AaC:∀{a:Lm.Ps},Lm.Wk a->(a.map (·.1)).Nodup
 | [],_=>by simp
 | q::a,w=>by
  rw [List.map_cons,List.nodup_cons]
  refine⟨fun h=>?_,AaC w.2.2⟩
  obtain⟨r,hr,e⟩:=List.mem_map.mp h
  have:=w.2.1 r hr
  have:=w.1
  omega
section
variable {a:Lm.Ps} {j:Nat} {nt:Int} {cs:List Pc} {ws:Lm.Ps} {ns:List Int}
theorem Pu.lows (p:Pu a j nt cs ws ns):(cs.map Pc.l).Nodup:=by
 have h:=AaC p.wk
 rw [<- p.lh,List.map_map] at h
 exact h
theorem Pu.nums (p:Pu a j nt cs ws ns):(cs.map Pc.n).Nodup:=by
 rw [p.nm]
 exact List.Pairwise.map Int.ofNat (fun x y z e=>z (Int.ofNat.inj e)) List.nodup_range
theorem Pu.len (p:Pu a j nt cs ws ns):cs.length=a.length:=by
 rw [<- p.lh,List.length_map]
theorem Pu.so (p:Pu a j nt cs ws ns):∀c ∈ cs,∀t,c.o=some t->PyData.strOk t.2.1=true:=fun c hc t e=>by
 rw [(p.op c hc t e).2.1]
 decide +kernel
theorem Pu.up (p:Pu a j nt cs ws ns):Pu a (j+1) nt cs ws ns:=⟨p.lh,p.nm,fun c hc=>⟨(p.lm c hc).1,(p.lm c hc).2.1,by have:=(p.lm c hc).2.2;omega⟩,p.op,p.nx,by have:=p.nl;omega,p.wk,p.wm,p.bd,p.la,p.lw,p.n0⟩
theorem AbA (nd:(cs.map Pc.l).Nodup) {c c':Pc} (h:c ∈ cs) (h':c' ∈ cs) (e:c.l=c'.l):c=c':=by
 obtain⟨i,hi⟩:=List.mem_iff_getElem?.mp h
 obtain⟨k,hk⟩:=List.mem_iff_getElem?.mp h'
 have h1:(cs.map Pc.l)[i]?=some c.l:=by rw [List.getElem?_map,hi];rfl
 have h2:(cs.map Pc.l)[k]?=some c.l:=by rw [List.getElem?_map,hk,e];rfl
 obtain⟨l1,g1⟩:=List.getElem?_eq_some_iff.mp h1
 obtain⟨l2,g2⟩:=List.getElem?_eq_some_iff.mp h2
 have:=(List.getElem_inj nd).mp (g1.trans g2.symm)
 subst this
 rw [hi] at hk
 exact Option.some.inj hk
theorem xK {S:Pc->Bool} (nd:(cs.map Pc.l).Nodup) {c c':Pc} (h:rQ S cs c) (h':rQ S cs c'):c=c':=by
 refine AbA nd h.1 h'.1 ?_
 have h1:=h.2.2 _ h'.1 h'.2.1
 have h2:=h'.2.2 _ h.1 h.2.1
 unfold ltP Pc.k at h1 h2
 simp only [not_or,not_and] at h1 h2
 omega
theorem ChP.one {i:Int} (nd:(cs.map Pc.l).Nodup) {c c':Pc} (h:ChP cs i c) (h':ChP cs i c'):c=c':=by
 rcases h with h|⟨g,h⟩ <;> rcases h' with h' | ⟨g',h'⟩
 ·exact xK nd h h'
 ·have:=g' c h.1;rw [h.2.1] at this;cases this
 ·have:=g c' h'.1;rw [h'.2.1] at this;cases this
 ·exact xK nd h h'
theorem Pu.open_ (p:Pu a j nt cs ws ns) {i:Int} {c:Pc} (h:ChP cs i c):c.m<c.h:=by
 rcases h with h|⟨_,h⟩
 ·have h2:=h.2.1
  unfold Pc.free at h2
  rw [Bool.and_eq_true,Bool.not_eq_true'] at h2
  have:=of_decide_eq_false h2.2
  have:=(p.lm c h.1).2.1
  omega
 ·have h2:=h.2.1
  unfold Pc.late at h2
  cases e:c.o with
  | none=>rw [e] at h2;cases h2
  | some t=>exact(p.op c h.1 t e).2.2
theorem Pu.inw (p:Pu a j nt cs ws ns) {c:Pc} (hc:c ∈ cs) {x:Int} (h1:c.l<=x) (h2:x<c.h):∃q ∈ ws,q.1<=x/\x+1<=q.2:=by
 have m:Lm.mem a x:=by
  refine⟨(c.l,c.h),?_,h1,h2⟩
  rw [<- p.lh]
  exact List.mem_map.mpr ⟨c,hc,rfl⟩
 obtain⟨q,hq,g1,g2⟩:=(p.wm x).mpr m
 exact⟨q,hq,g1,by omega⟩
theorem fr7 {n m h:Int} (e:m<h):iT [n] (some (m-m)) (some (h-m))=[n]:=by
 unfold iT
 have e1:HT.sIx [n].length 0 (some (m-m))=0:=by
  simp only [HT.sIx]
  rw [if_neg (by omega)]
  show min (m-m).toNat 1=0
  omega
 have e2:HT.sIx [n].length [n].length (some (h-m))=1:=by
  simp only [HT.sIx]
  rw [if_neg (by omega)]
  show min (h-m).toNat 1=1
  omega
 rw [e1,e2]
 rfl
def Pc.on (c:Pc) (nt u:Int):Pc:={ c with m:=c.m+1,o:=if c.m+1=c.h then none else some (nt,"zoe",u) }
theorem lJ {β:Type} {f:Pc->β} {k:Nat} {c c':Pc} (hc:cs[k]?=some c) (e:f c'=f c):(cs.set k c').map f=cs.map f:=by
 rw [List.map_set,e]
 refine List.ext_getElem? fun i=>?_
 rw [List.getElem?_set]
 by_cases z:k=i
 ·subst z
  rw [if_pos rfl,List.getElem?_map,hc]
  have:=(List.getElem?_eq_some_iff.mp hc).1
  simp [this]
 ·rw [if_neg z]
theorem pC {k:Nat} {c' x:Pc} (h:x ∈ cs.set k c'):x=c'\/∃i,i≠k/\cs[i]?=some x:=by
 obtain⟨i,hi⟩:=List.mem_iff_getElem?.mp h
 rw [List.getElem?_set] at hi
 by_cases z:k=i
 ·rw [if_pos z] at hi
  split at hi
  ·exact .inl (Option.some.inj hi).symm
  ·cases hi
 ·rw [if_neg z] at hi
  exact .inr ⟨i,fun y=>z y.symm,hi⟩
theorem AaK {k i:Nat} {c c' x:Pc} (hc:cs[k]?=some c) (h:cs[i]?=some x):x=c/\c' ∈ cs.set k c'\/x ∈ cs.set k c':=by
 have lk:=(List.getElem?_eq_some_iff.mp hc).1
 by_cases z:k=i
 ·subst z
  rw [hc] at h
  cases h
  exact .inl ⟨rfl,List.mem_of_getElem? (i:=k) (by rw [List.getElem?_set,if_pos rfl,if_pos lk])⟩
 ·exact .inr (List.mem_of_getElem? (i:=i) (by rw [List.getElem?_set,if_neg z];exact h))
theorem Pu.step (p:Pu a j nt cs ws ns) {k:Nat} {c:Pc} (hc:cs[k]?=some c) (op:c.m<c.h) (u:Int):Pu a (j+1) (nt+1) (cs.set k (c.on nt u)) ws (ns++[c.m]):=by
 have mc:=List.mem_of_getElem? hc
 have lc:=p.lm c mc
 refine⟨by rw [lJ (c':=c.on nt u) (f:=fun c=>(c.l,c.h)) hc rfl];exact p.lh,by rw [lJ (c':=c.on nt u) (f:=Pc.n) hc rfl];exact p.nm,fun x hx=>?_,fun x hx t e=>?_,fun x=>?_,by rw [List.length_append];have:=p.nl;show _+1<=_;omega,p.wk,p.wm,p.bd,p.la,p.lw,by have:=p.n0;omega⟩
 ·rcases pC hx with rfl|⟨i,_,hi⟩
  ·exact⟨by show c.l<=c.m+1;omega,by show c.m+1<=c.h;omega,by show c.m+1<=c.l+((j+1:Nat):Int);omega⟩
  ·have:=p.lm x (List.mem_of_getElem? hi)
   exact⟨this.1,this.2.1,by omega⟩
 ·rcases pC hx with rfl|⟨i,_,hi⟩
  ·have e:(if c.m+1=c.h then none else some (nt,("zoe":Str),u))=some t:=e
   by_cases z:c.m+1=c.h
   ·rw [if_pos z] at e;cases e
   ·rw [if_neg z] at e
    cases e
    exact⟨by show nt<nt+1;omega,rfl,by show c.m+1<c.h;omega⟩
  ·have:=p.op x (List.mem_of_getElem? hi) t e
   exact⟨by omega,this.2⟩
 ·rw [List.mem_append,List.mem_singleton,p.nx]
  constructor
  ·rintro(⟨x',hx',h1,h2⟩|rfl)
   ·obtain⟨i,hi⟩:=List.mem_iff_getElem?.mp hx'
    rcases AaK (c':=c.on nt u) hc hi with ⟨rfl,m⟩|m
    ·exact⟨_,m,h1,by show x<x'.m+1;omega⟩
    ·exact⟨x',m,h1,h2⟩
   ·rcases AaK (c':=c.on nt u) hc hc with ⟨_,m⟩|m
    ·exact⟨_,m,lc.1,by show c.m<c.m+1;omega⟩
    ·refine⟨c.on nt u,?_,lc.1,by show c.m<c.m+1;omega⟩
     exact List.mem_of_getElem? (i:=k) (by rw [List.getElem?_set,if_pos rfl,if_pos (List.getElem?_eq_some_iff.mp hc).1])
  ·rintro⟨x',hx',h1,h2⟩
   rcases pC hx' with rfl|⟨i,_,hi⟩
   ·have h1:c.l<=x:=h1
    have h2:x<c.m+1:=h2
    by_cases z:x=c.m
    ·exact .inr z
    ·exact .inl ⟨c,mc,h1,by omega⟩
   ·exact .inl ⟨x',List.mem_of_getElem? hi,h1,h2⟩
theorem Pu.fresh (p:Pu a j nt cs ws ns) {k:Nat} {c:Pc} (hc:cs[k]?=some c) (op:c.m<c.h):c.m ∉ ns:=fun h=>by
 obtain⟨x,hx,h1,h2⟩:=(p.nx _).mp h
 have mc:=List.mem_of_getElem? hc
 have lx:=p.lm x hx
 have lc:=p.lm c mc
 have ne:x≠c:=fun z=>by subst z;omega
 have qx:(x.l,x.h) ∈ a:=by rw [<- p.lh];exact List.mem_map.mpr ⟨x,hx,rfl⟩
 have qc:(c.l,c.h) ∈ a:=by rw [<- p.lh];exact List.mem_map.mpr ⟨c,mc,rfl⟩
 have apart:∀{a:Lm.Ps},Lm.Wk a->∀q ∈ a,∀r ∈ a,q=r\/q.2<=r.1\/r.2<=q.1:=by
  intro a
  induction a with
  | nil=>intro _ q hq;cases hq
  | cons s t ih=>
   intro w q hq r hr
   rcases List.mem_cons.mp hq with rfl|hq' <;> rcases List.mem_cons.mp hr with rfl|hr'
   ·exact .inl rfl
   ·exact .inr (.inl (w.2.1 r hr'))
   ·exact .inr (.inr (w.2.1 q hq'))
   ·exact ih w.2.2 q hq' r hr'
 rcases apart p.wk _ qx _ qc with e|e|e
 ·exact ne (AbA p.lows hx mc (congrArg Prod.fst e))
 ·have e:x.h<=c.l:=e
  omega
 ·have e:c.h<=x.l:=e
  omega
theorem zP {kvs:List (Key × V)} (h:Holds (fun _=>7) kvs ns) {m:Int} (n:m ∉ ns) (l:ns.length<63) (b:-(2 ^ 61)<=m/\m<2 ^ 61):Holds (fun _=>7) (kvs++nU m [7] 1) (ns++[m]):=by
 have ee:nU m [7] 1=[((Sum.inl m:Key),V.int 7)]:=by
  show [((Sum.inl (m+((0:Nat):Int)):Key),V.int 7)]=_
  rw [show m+((0:Nat):Int)=m by omega]
 have nv:dY kvs (Sum.inl m:Key)=none:=jJ.mpr fun e he z=>n (by
  have:(Sum.inl m:Key) ∈ kvs.map (·.1):=List.mem_map.mpr ⟨e,he,z⟩
  rw [h.key] at this
  obtain⟨x,hx,q⟩:=List.mem_map.mp this
  cases q
  exact hx)
 rw [ee]
 refine⟨by rw [List.map_append,List.map_append,h.key];rfl,?_,by rw [List.length_append];show _+1<64;omega,fun x hx=>?_,fun x hx=>?_⟩
 ·rw [List.nodup_append]
  exact⟨h.nd,by simp,fun x hx y hy z=>by rw [List.mem_singleton] at hy;subst hy;subst z;exact n hx⟩
 ·rw [sE _ _ _ _ nv]
  by_cases z:x=m
  ·subst z;rw [if_pos rfl]
  ·rw [if_neg fun y=>z (Sum.inl.inj y)]
   rcases List.mem_append.mp hx with hx|hx
   ·exact h.val x hx
   ·exact absurd (List.mem_singleton.mp hx) z
 ·rcases List.mem_append.mp hx with hx|hx
  ·exact h.lo x hx
  ·rw [List.mem_singleton] at hx
   subst hx
   exact b
theorem zQ {kvs:List (Key × V)} (h:Holds (fun _=>7) kvs ns) {m:Int} (n:m ∉ ns):dY kvs (Sum.inl m:Key)=none:=jJ.mpr fun e he z=>n (by
  have:(Sum.inl m:Key) ∈ kvs.map (·.1):=List.mem_map.mpr ⟨e,he,z⟩
  rw [h.key] at this
  obtain⟨x,hx,q⟩:=List.mem_map.mp this
  cases q
  exact hx)
end
def AeU:HO->Bool
 | .lst _=>true
 | .tup _=>true
 | .frz _ _=>true
 | .ext _=>true
 | _=>false
def Ky (H H':Hp):Prop:=∀a o,H a=some o->AeU o=true->H' a=some o
theorem Ky.trans {H H1 H2:Hp} (a:Ky H H1) (b:Ky H1 H2):Ky H H2:=fun x o e p=>b x o (a x o e p) p
theorem Ky.of {H H':Hp} (s:dO H H'):Ky H H':=fun x o e p=>s.at e fun ps z=>by rw [z] at p;cases p
theorem _root_.L2.SqL.ky {K:Frag} {H H':Hp} {a:Addr} {xs:List V} (e:Ky H H') (h:SqL K H a xs):SqL K H' a xs:=by
 rcases h with (h|⟨o,h⟩)|h
 ·exact .inl (.inl (e _ _ h rfl))
 ·exact .inl (.inr ⟨o,e _ _ h rfl⟩)
 ·exact .inr h
theorem _root_.L2.SqT.ky {K:Frag} {H H':Hp} {a:Addr} {xs:List V} (e:Ky H H') (h:SqT K H a xs):SqT K H' a xs:=by
 rcases h with (h|⟨o,h⟩)|h
 ·exact .inl (.inl (e _ _ h rfl))
 ·exact .inl (.inr ⟨o,e _ _ h rfl⟩)
 ·exact .inr h
mutual
theorem AeO {K:Frag} {H H':Hp} (e:Ky H H'):∀{x:V} {d:PyData},RdV K H x d->RdV K H' x d
 | _,_,.non=>.non
 | _,_,.bl b=>.bl b
 | _,_,.int i=>.int i
 | _,_,.str x=>.str x
 | _,_,.lst q r=>.lst (q.ky e) (uN e r)
 | _,_,.tup q r=>.tup (q.ky e) (uN e r)
theorem uN {K:Frag} {H H':Hp} (e:Ky H H'):∀{xs:List V} {ds:List PyData},gL K H xs ds->gL K H' xs ds
 | _,_,.nil=>.nil
 | _,_,.cons a b=>.cons (AeO e a) (uN e b)
end
structure Bi (CB CS CP T T2:Addr) (H:Hp) (b:Addr) (a:Lm.Ps) (j:Nat) (sp ev le nt mo:Int) (cs:List Pc) (ws:Lm.Ps) (ns:List Int):Prop where
 ex:∃(pw sh d pw' d':Addr) (ps:List Addr) (kvs:List (Key × V)),Bk CB CS CP H b pw sh d pw' d' sp ev le a.length nt mo ps cs ws kvs ns/\d≠d'
 pu:Pu a j nt cs ws ns
 t1:Tab H T oK iB
 t2:Tab H T2 wH lS
 tn:T2≠T
theorem Bi.keep1 {CB CS CP T T2:Addr} {H H':Hp} {b:Addr} {a:Lm.Ps} {j:Nat} {sp ev le nt mo:Int} {cs:List Pc} {ws:Lm.Ps} {ns:List Int} (h:Bi CB CS CP T T2 H b a j sp ev le nt mo cs ws ns) (k:cQ T H H') (t:Tab H' T oK iB):Bi CB CS CP T T2 H' b a j sp ev le nt mo cs ws ns:=by
 obtain⟨pw,sh,d,pw',d',ps,kvs,B,n⟩:=h.ex
 obtain⟨qs,hT,_⟩:=id h.t1
 exact⟨⟨pw,sh,d,pw',d',ps,kvs,B.sameT (cQ.t h.t1 k),n⟩,h.pu,t,h.t2.keep h.tn hT k,h.tn⟩
theorem Bi.keep2 {CB CS CP T T2:Addr} {H H':Hp} {b:Addr} {a:Lm.Ps} {j:Nat} {sp ev le nt mo:Int} {cs:List Pc} {ws:Lm.Ps} {ns:List Int} (h:Bi CB CS CP T T2 H b a j sp ev le nt mo cs ws ns) (k:cQ T2 H H') (t:Tab H' T2 wH lS):Bi CB CS CP T T2 H' b a j sp ev le nt mo cs ws ns:=by
 obtain⟨pw,sh,d,pw',d',ps,kvs,B,n⟩:=h.ex
 obtain⟨qs,hT,_⟩:=id h.t2
 exact⟨⟨pw,sh,d,pw',d',ps,kvs,B.sameT (cQ.t h.t2 k),n⟩,h.pu,h.t1.keep h.tn.symm hT k,t,h.tn⟩
theorem Bi.same {CB CS CP T T2:Addr} {H H':Hp} {b:Addr} {a:Lm.Ps} {j:Nat} {sp ev le nt mo:Int} {cs:List Pc} {ws:Lm.Ps} {ns:List Int} (h:Bi CB CS CP T T2 H b a j sp ev le nt mo cs ws ns) (k:aR H H'):Bi CB CS CP T T2 H' b a j sp ev le nt mo cs ws ns:=by
 obtain⟨pw,sh,d,pw',d',ps,kvs,B,n⟩:=h.ex
 exact⟨⟨pw,sh,d,pw',d',ps,kvs,B.sameT (aR.toT k),n⟩,h.pu,h.t1.same k,h.t2.same k,h.tn⟩
theorem wY:∀{cs:List Pc} {c:Pc},(cs.map Pc.n).Nodup->c ∈ cs->cs.filter (fun x=>decide (V.int x.n=V.int c.n))=[c]
 | [],c,_,h=>by cases h
 | x::cs,c,nd,h=>by
  rw [List.map_cons,List.nodup_cons] at nd
  rcases List.mem_cons.mp h with rfl|h
  ·rw [List.filter_cons,if_pos (decide_eq_true rfl)]
   congr 1
   rw [List.filter_eq_nil_iff]
   intro y hy z
   have z:=of_decide_eq_true z
   injection z with z
   exact nd.1 (List.mem_map.mpr ⟨y,hy,z⟩)
  ·rw [List.filter_cons,if_neg,wY nd.2 h]
   intro z
   have z:=of_decide_eq_true z
   injection z with z
   exact nd.1 (List.mem_map.mpr ⟨c,h,z.symm⟩)
theorem AaP {H:Hp}:∀{rs:List V} {cs:List Pc},Paired (lY H) rs cs->∃ts:List Addr,rs=ts.map V.ref/\∀z ∈ cs.zip ts,∃lv,H z.2=some (.tup [.int z.1.n,.int z.1.l,.int z.1.h,.int z.1.m,lv])
 | _,_,.nil=>⟨[],rfl,fun z hz=>by simp at hz⟩
 | _,_,.cons ⟨t,lv,e,h1,_⟩ r=>by
  obtain⟨ts,e2,h⟩:=AaP r
  refine⟨t::ts,by rw [e,e2];rfl,fun z hz=>?_⟩
  rcases List.mem_cons.mp hz with rfl|hz
  ·exact⟨lv,h1⟩
  ·exact h z hz
def tV (CB CS CP T T2:Addr):Sp:=fun vs H Q _=>∃(b:Addr) (a:Lm.Ps) (j:Nat) (sp ev le nt mo i:Int) (cs:List Pc) (ws:Lm.Ps) (ns:List Int),vs=[.ref b,.int i,.int nt]/\Bi CB CS CP T T2 H b a j sp ev le nt mo cs ws ns/\mo<=i/\j<=20/\1<=ev /\
 ∀(nt' mo':Int) (cs':List Pc) (ns':List Int) (H':Hp),Bi CB CS CP T T2 H' b a (j+1) sp ev le nt' mo' cs' ws ns'->Ky H H'->mo'<=i->Q (.int nt') H'
theorem ndPD:(["_law_piece","_law_due"]:List Str).Nodup:=by decide +kernel
theorem zoe:lX "zoe":=by
 refine⟨by decide +kernel,by decide +kernel,by decide +kernel,fun i c h=>?_⟩
 have m:c ∈ ("zoe":Str).cps.toList:=Array.mem_toList_iff.mpr (Array.mem_of_getElem? h)
 revert m
 revert c
 intro c _ m
 exact(by decide +kernel:∀c ∈ ("zoe":Str).cps.toList,(!decide ((⟨#[c]⟩:Str).cps.toList<("a":Str).cps.toList))=true/\(!decide (("z":Str).cps.toList<(⟨#[c]⟩:Str).cps.toList))=true) c m
def NoL (H H':Hp):Prop:=∀a o,H a=some o->(∀xs,o≠.lst xs)->H' a=some o
theorem eR.nol {CB CP:Addr} {H H':Hp} {b pw sh d:Addr} {sp ev le nn nt mo:Int} {ps:List Addr} {cs:List Pc} (e:NoL H H') (h:eR CB CP H b pw sh d sp ev le nn nt mo ps cs):eR CB CP H' b pw sh d sp ev le nn nt mo ps cs:=by
 obtain⟨⟨dx,h1⟩,h2,h3⟩:=h
 exact⟨⟨dx,e _ _ h1 (by intro _ z;cases z)⟩,e _ _ h2 (by intro _ z;cases z),bY (fun _ _ ⟨lv,⟨dz,ha⟩,hl⟩=>⟨lv,⟨dz,e _ _ ha (by intro _ z;cases z)⟩,hl.move fun q ys z=>e _ _ z (by intro _ z;cases z)⟩) h3⟩
theorem cO.nol {C:Addr} {H H':Hp} {p pw d:Addr} {ws:Lm.Ps} {kvs:List (Key × V)} (e:NoL H H') (h:cO C H p pw d ws kvs):cO C H' p pw d ws kvs:=by
 obtain⟨⟨dx,h1⟩,⟨xs,h2,h3⟩,h4⟩:=h
 exact⟨⟨dx,e _ _ h1 (by intro _ z;cases z)⟩,⟨xs,e _ _ h2 (by intro _ z;cases z),bY (fun v q ⟨b,z1,z2⟩=>⟨b,z1,e _ _ z2 (by intro _ z;cases z)⟩) h3⟩,e _ _ h4 (by intro _ z;cases z)⟩
theorem Tab.nol {H H':Hp} {T:Addr} {pos:Pos} {q:Str} (e:NoL H H') (t:Tab H T pos q):Tab H' T pos q:=by
 obtain⟨qs,a,b,c⟩:=t
 refine⟨qs,e _ _ a (by intro _ z;cases z),b,?_⟩
 rcases c with c|⟨c',c1,c2⟩
 ·exact .inl c
 ·exact .inr ⟨c',c1,e _ _ c2 (by intro _ z;cases z)⟩
theorem nol_upd {H:Hp} {l:Addr} {xs ys:List V} (e:H l=some (.lst xs)):NoL H (upd H l (.lst ys)):=fun a o z n=>by
 rw [aG (aX z e (n xs))]
 exact z
section
variable {P:Program} {w:World} {K:PySem.W.Frag} {mg:Str->Option Value} {base:Heap}
theorem oS:aP ["_law_book","_law_moment","_law_token","_law_due","_law_mark","_law_told"] ["_law_book","_law_moment","_law_token"] (aH uK):=⟨rfl,rfl,rfl,by decide +kernel,rfl,by decide +kernel,by decide +kernel⟩
theorem AfM {f CB CS CP T T2 fC fP fL:Addr} {fd fdC fdP fdL:FuncData} (F:Fun K "_law_lent" "_law_lent" uK f fd) (G:Gb mg) (TB:Bl K mg CB)
  (GC:aJ P w K mg base CX0 5 fC fdC ["self","moment"] (iW CB CP T)) (bC:aO K fdC ["self","moment"] []) (mC:dE K CB "choice" fC)
  (GP:aJ P w K mg base CX0 4 fP fdP ["self"] (lE CB CP T2)) (bP:aO K fdP ["self"] []) (mP:dE K CB "pieces" fP)
  (GL:aJ P w K mg base CX0 9 fL fdL ["_law_book","_law_line"] (fQ (fU CB CP T))) (GT:aJ P w K mg base CX0 9 fL fdL ["_law_book","_law_line"] (fQ (lG CB CS CP))) (kL:keepIn K (.ref fL)=true) (bL:aO K fdL ["_law_book","_law_line"] []) (mL:mg "_law_done_line"=some (.ref fL)):
  aJ P w K mg base CX0 10 f fd ["_law_book","_law_moment","_law_token"] (tV CB CS CP T T2):=by
 refine F.ok oS (fun vs H Q E h=>?_) (fun cdv A outer s H vs Q E hr h=>?_)
 ·obtain⟨b,a,j,sp,ev,le,nt,mo,i,cs,ws,ns,rfl,_⟩:=h
  rfl
 ·obtain⟨b,a,j,sp,ev,le,nt,mo,i,cs,ws,ns,rfl,B,hi,hj,he,t⟩:=h
  have rm:∀{k},k<=9->Room k (A.deeper (PyProof.Rows.envOfC "_law_lent" (aH uK) s.heap.objs.size f cdv)):=fun h=>hr.mono h
  refine⟨_,aC (aU (i:=3) oS.nd rfl (Or.inr rfl) (cU (pv 0) TB.cl mC GC (rm (by decide)) bC .nil aN (aA (pv 1) aB)))
   (aC (cJ (PW.pt (gH (cB qO (pv 3) dX (bX _)) (eT (cB gO (bJ bQ (pv 3) aE (fun _ _=>rfl)) aZ (bX _))))) (aI (aY (pv 2))) bV)
   (aC (aU (i:=4) oS.nd rfl (Or.inl rfl) (bJ cV (hZ (NB:=["_law_piece","_law_due"]) (n:=1) (js:=[3]) (g:=dQ 0) (cl:=[("_law_due",s.heap.objs.size+1)]) rfl (by decide +kernel) (by decide +kernel) rfl
     (fY.of rfl (aQ rfl cF) (aQ (fun z=>nomatch z) (aQ (fun z=>nomatch z) (aQ (fun _=>rfl) cF))) rfl
      (fun k j h=>match k,j,h with|0,_,rfl=>rfl|k+1,_,h=>absurd h (by simp)) (aQ ⟨.inl rfl,.inl rfl,rfl⟩ cF))
     (oX (cM (pv 0) TB.cl mP GP (rm (by decide)) bP .nil aN)) (fun C s H fp pn=>cG (i:=0) ndPD rfl (Or.inl rfl) (.inr rfl))
     (fun C s H fp pn=>jP (cB gO (bJ (r:=wA K) bQ (pv 0) aE (fun _ _=>rfl)) (bJ (r:=wA K) bQ (pv 1) aE (fun _ _=>rfl)) (bX _))) (fun C s H fp pn=>bJ (r:=wA K) bQ (pv 0) aE (fun _ _=>rfl))) aE (fun _ _=>rfl)))
   (aC (aU (i:=5) oS.nd rfl (Or.inl rfl) (cN (aA (aL GL hr rfl mL kL bL .nil aN (aA (pv 0) (aA (cC (aA aZ (aA (pv 1) (aA aZ (aA (pv 2) (aA (bJ bQ (pv 3) aE (fun _ _=>rfl)) aB)))))) aB))) aB)))
   (aC (cT (wF PySem.F.plainAttrs_list PySem.F.slot_list_append PySem.F.type_list_append eL (pv 5) (aA (aL GT hr rfl mL kL bL .nil aN (aA (pv 0) (aA (cC (aA aZ (aA (pv 1) (aA (pv 2) (aA (pv 4) (aA (cC (aA aE aB)) aB)))))) aB))) aB)))
   (aI (aY (bJ cV (cN (aA (bU dG (pv 2) aE) (aA dX aB))) (dU nX (by rfl) G.int vF (aA (eJ (qN hr.units) (pv 5) (cN (aA aZ (aA aZ aB))) (bX _)) aB)) (fun _ _=>rfl)))))))),?_⟩
  have sz:∀{n:Nat},n<=1000->n<=sizeLine:=fun h=>Nat.le_of_lt (eS h)
  have pu:=B.pu
  obtain⟨pw,sh,d,pw',d',ps,kvs,K0,nd⟩:=B.ex
  obtain⟨dx,hbo⟩:=K0.bk.ob
  have lc:=K0.lc
  refine⟨_,rfl,b,dx,_,rfl,hbo,rfl,_,rfl,b,pw,sh,d,sp,ev,le,a.length,nt,mo,i,ps,cs,rfl,K0.bk,by omega,hi,B.t1,fun v H1 k1 tb1 ch=>?_⟩
  have st1:=cQ.t B.t1 k1
  have B1:=B.keep1 k1 tb1
  have out:Q (.int nt) H1:=t nt mo cs ns H1 ⟨B1.ex,pu.up,B1.t1,B1.t2,B1.tn⟩ (Ky.of st1) hi
  cases ch with
  | non _ _ _=>exact⟨_,rfl,rfl,_,rfl,eP (eP ⟨_,rfl,out⟩)⟩
  | @cut c r _ _ _ _ er=>exact⟨_,rfl,rfl,_,rfl,dH ⟨_,rfl,r,_,_,_,rfl,rfl,SqT.of er,aM (j:=0) rfl,rfl,_,rfl,gY (decide_eq_true rfl) ⟨_,rfl,out⟩⟩⟩
  | @pc c r cp er=>
  have cp:ChP cs i c:=cp
  have op:=pu.open_ cp
  refine⟨_,rfl,rfl,_,rfl,dH ⟨_,rfl,r,_,_,_,rfl,rfl,SqT.of er,aM (j:=0) rfl,rfl,_,rfl,eX (by decide +kernel) ?_⟩⟩
  clear out
  obtain⟨pw,sh,d,pw',d',ps,kvs,K1,nd⟩:=B1.ex
  obtain⟨dx,hbo⟩:=K1.bk.ob
  refine⟨_,rfl,b,dx,_,rfl,hbo,rfl,b,pw,sh,d,sp,ev,le,a.length,nt,mo,ps,cs,rfl,K1.bk,by omega,B1.t2,fun r1 H2 rs cs' k2 _ tb2 e2 pm _ pr=>?_⟩
  have st2:=cQ.t B1.t2 k2
  have B2:=B1.keep2 k2 tb2
  have er:=st2.at er
  obtain⟨ts,rfl,hts⟩:=AaP pr
  have lt:ts.length=cs'.length:=by have:=pr.length;rw [List.length_map] at this;exact this
  have e2':H2 r1=some (.lst ((cs'.zip ts).map fun z=>V.ref z.2)):=by
   rw [e2]
   congr 2
   have:=List.map_snd_zip (l₁:=cs') (l₂:=ts) (by omega)
   conv=>lhs;rw [<- this]
   rw [List.map_map]
   rfl
  refine⟨r1,rfl,⟨_,SqL.of e2'⟩,fun acc na=>?_⟩
  obtain⟨g1,g2,g3⟩:=AdF (K:=K) (val:=fun z:Pc × Addr=>V.ref z.2) e2'
  obtain⟨W,w0,step⟩:=filtW na (cs'.zip ts) (fun z=>V.ref z.2) (fun z=>V.int z.1.m) (fun z=>decide (V.int z.1.n=V.int c.n)) (by rw [List.length_zip];have:=pm.length_eq;omega) g1 g2 g3
  refine⟨W,w0,fun x m ys G hW=>?_⟩
  obtain⟨⟨hA,sg⟩,⟨hs,rfl⟩|⟨hg,hy⟩⟩:=step x m ys G hW
  rotate_left
  ·refine⟨hA,.inr ⟨hg,fun y G' hx=>?_⟩⟩
   obtain⟨rfl,z,hz,rfl,ln,y1,y2⟩:=hy y G' hx
   obtain⟨lv,ez⟩:=hts z hz
   have ez:=sg _ _ ez
   refine⟨rfl,_,rfl,z.2,_,_,_,rfl,rfl,SqT.of ez,aM (j:=0) rfl,_,rfl,r,_,_,_,rfl,rfl,SqT.of (sg _ _ er),aM (j:=1) rfl,rfl,_,rfl,?_⟩
   refine eF (fun hc=>?_) fun hc=>y2 hc
   exact⟨_,rfl,z.2,_,_,_,rfl,rfl,SqT.of ez,aM (j:=3) rfl,hA,ln,y1 hc⟩
  refine⟨hA,.inl ⟨hs,?_⟩⟩
  have em:((cs'.zip ts).filter fun z=>decide (V.int z.1.n=V.int c.n)).map (fun z=>V.int z.1.m)=[V.int c.m]:=by
   have h1:(cs'.zip ts).map (·.1)=cs':=List.map_fst_zip (by omega)
   have h2:(((cs'.zip ts).filter fun z=>decide (V.int z.1.n=V.int c.n)).map (·.1))=cs'.filter fun x=>decide (V.int x.n=V.int c.n):=by
    conv=>rhs;rw [<- h1]
    rw [List.filter_map]
    rfl
   rw [wY ((pm.map _).nodup_iff.mpr pu.nums) (pm.mem_iff.mpr cp.mem)] at h2
   have h3:=congrArg (List.map fun x:Pc=>V.int x.m) h2
   rw [List.map_map] at h3
   exact h3
  rw [em] at hA
  have B3:=B2.same sg
  have er:=sg _ _ er
  have ky3:Ky H G:=(Ky.of st1).trans ((Ky.of st2).trans (Ky.of (aR.toT sg)))
  refine⟨acc,_,_,_,rfl,rfl,SqL.of hA,aM (j:=0) rfl,?_⟩
  clear step w0 hts e2 e2' pr
  refine⟨_,rfl,_,rfl,_,rfl,_,rfl,r,_,_,_,rfl,rfl,SqT.of er,aM (j:=1) rfl,sz (by show 5<=1000;decide),fun t1 n1=>?_⟩
  obtain⟨H4,hh,s4,e4⟩:=alo n1 (.tup [.str "lent",.int i,.str "zoe",.int nt,.int c.n])
  rw [hh]
  have B4:=B3.same s4
  have ky4:=ky3.trans (Ky.of (aR.toT s4))
  obtain⟨pw,sh,d,pw',d',ps,kvs,K4,nd⟩:=B4.ex
  refine⟨rfl,b,t1,pw,sh,d,sp,ev,le,a.length,nt,mo,i,c.n,"zoe",ps,cs,rfl,e4,K4.bk,by omega,pu.nums,zoe,hi,B4.t1,cp.pk,fun c' h'=>by rw [h'.one pu.lows cp],fun k p c' H5 hp hc cp' kp5 tb5 hb5=>⟨rfl,?_⟩⟩
  have ec:=cp'.one pu.lows cp
  subst ec
  obtain⟨dx,hbo⟩:=K4.bk.ob
  obtain⟨_,hcx,lv,⟨dp,hat⟩,_⟩:=cA K4.bk.pc hp
  obtain⟨qs,hT,_⟩:=id B4.t1
  obtain⟨dz,hsh⟩:=K4.st.ob
  have kt5:∀x o,H4 x=some o->(∀C dx fs,o≠.ins C dx fs)->(∀q,o≠.tbl q)->H5 x=some o:=fun x o e n1 n2=>kp5 x o e (aX e hbo (n1 _ _ _)) (aX e hat (n1 _ _ _)) (aX e hT (n2 _))
  have st5:cO CS H5 sh pw' d' ws kvs:=by
   obtain⟨_,⟨xs,h2,h3⟩,h4⟩:=K4.st
   refine⟨⟨dz,kp5 _ _ hsh ?_ ?_ (aX hsh hT (by intro z;cases z))⟩,⟨xs,kt5 _ _ h2 (by intro _ _ _ z;cases z) (by intro _ z;cases z),bY (fun v q ⟨b,z1,z2⟩=>⟨b,z1,kt5 _ _ z2 (by intro _ _ _ z;cases z) (by intro _ z;cases z)⟩) h3⟩,kt5 _ _ h4 (by intro _ _ _ z;cases z) (by intro _ z;cases z)⟩
   ·exact aX hsh hbo (by intro z;injection z with _ _ z;exact absurd (congrArg List.length z) (by show ¬ 2=9;decide))
   ·exact aX hsh hat (by intro z;injection z with _ _ z;exact absurd (congrArg List.length z) (by show ¬ 2=5;decide))
  have t25:Tab H5 T2 wH lS:=by
   obtain⟨q2,a1,a2,a3⟩:=B4.t2
   refine⟨q2,kp5 _ _ a1 (aX a1 hbo (by intro z;cases z)) (aX a1 hat (by intro z;cases z)) B4.tn,a2,?_⟩
   rcases a3 with a3|⟨c',a3,a4⟩
   ·exact .inl a3
   ·exact .inr ⟨c',a3,kt5 _ _ a4 (by intro _ _ _ z;cases z) (by intro _ z;cases z)⟩
  have ky5:Ky H H5:=ky4.trans fun x o e p=>kt5 x o e (by intro _ _ _ z;rw [z] at p;cases p) (by intro _ z;rw [z] at p;cases p)
  refine⟨sz (by show 1<=1000;decide),fun lt nlt=>?_⟩
  obtain⟨H6,hh,s6,e6⟩:=alo nlt (.lst [.str "ok"])
  rw [hh]
  refine⟨_,rfl,.inl ⟨rfl,_,SqL.of e6⟩,_,rfl,_,rfl,_,rfl,_,rfl,sz (by show 1<=1000;decide),fun q7 n7=>?_⟩
  obtain⟨H7,hh,s7,e7⟩:=alo n7 (.tup ([7].map V.int))
  have hh:upd H6 q7 (.tup [.int 7])=H7:=hh
  rw [hh]
  refine⟨sz (by show 5<=1000;decide),fun t2 n2=>?_⟩
  obtain⟨H8,hh,s8,e8⟩:=alo n2 (.tup [.str "told",.int i,.int nt,.int c'.m,.ref q7])
  rw [hh]
  have S8:=s6.trans (s7.trans s8)
  have ky8:=ky5.trans (Ky.of (aR.toT S8))
  have hb8:=hb5.sameT (aR.toT S8)
  have st8:=st5.same S8
  obtain⟨dx8,hbo8⟩:=hb8.ob
  have lk:=(List.getElem?_eq_some_iff.mp hc).1
  have mc:=List.mem_of_getElem? hc
  have lmc:=pu.lm c' mc
  have fr:c'.m ∉ ns:=pu.fresh hc op
  have f7:iT [7] (some (c'.m-c'.m)) (some (c'.h-c'.m))=[7]:=fr7 op
  have hc1:(cs.set k { c' with o:=some (nt,"zoe",i+sp) })[k]?=some { c' with o:=some (nt,"zoe",i+sp) }:=by rw [List.getElem?_set,if_pos rfl,if_pos lk]
  have bq:=pu.bd (c'.l,c'.h) (by rw [<- pu.lh];exact List.mem_map.mpr ⟨c',mc,rfl⟩)
  have bq:-(2 ^ 60)<=c'.l/\c'.h<=2 ^ 60:=bq
  have lnx:kvs.length<=1000:=by
   have h:=congrArg List.length K4.hd.key
   rw [List.length_map,List.length_map] at h
   have:=K4.hd.len
   omega
  refine⟨rfl,b,t2,q7,i,nt,c'.m,rfl,e8,⟨dx8,_,hbo8,rfl⟩,b,pw,sh,d,pw',d',q7,sp,ev,le,a.length,nt+1,i,nt,i,c'.m,ps,_,k,p,{ c' with o:=some (nt,"zoe",i+sp) },ws,kvs,[7],rfl,hb8,st8,Int.le_refl _,pu.n0,by omega,hp,hc1,decide_eq_true rfl,fun y e he hy=>?_,s8 _ _ e7,by decide,lmc.1,Int.le_refl _,by show c'.m+1<=c'.m+ev;omega,by omega,by omega,fun y n _ z=>by exfalso;have z:c'.m+(y:Int)<c'.m:=z;omega,by rw [lJ (c':={ c' with o:=some (nt,"zoe",i+sp) }) (f:=Pc.n) hc rfl];exact pu.nums,nd,by have:=pu.lw;omega,lnx,?_,fun r8 H9 kp9 hb9 st9 _=>⟨rfl,?_⟩⟩
  ·rw [List.getElem?_set,if_neg (by omega)] at he
   unfold Pc.has
   cases eo:e.o with
   | none=>rfl
   | some t=>
    have:=(pu.op e (List.mem_of_getElem? he) t eo).1
    exact decide_eq_false (by omega)
  ·have f7:iT [7] (some (({ c' with o:=some (nt,"zoe",i+sp) }:Pc).m-c'.m)) (some (({ c' with o:=some (nt,"zoe",i+sp) }:Pc).h-c'.m))=[7]:=f7
   rw [f7]
   refine⟨by show _<=c'.m;omega,by show c'.m+((1:Nat):Int)<=_;omega,?_,fun y hy=>?_⟩
   ·obtain⟨q,hq,q1,q2⟩:=pu.inw mc lmc.1 op
    exact⟨q,hq,q1,q2⟩
   ·have y0:y=0:=by have hy:y<1:=hy;omega
    subst y0
    have:c'.m+((0:Nat):Int)=c'.m:=by omega
    show dY kvs (Sum.inl (c'.m+((0:Nat):Int)):Key)=none
    rw [this]
    exact zQ K4.hd fr
  have f7':iT [7] (some (({ c' with o:=some (nt,"zoe",i+sp) }:Pc).m-c'.m)) (some (({ c' with o:=some (nt,"zoe",i+sp) }:Pc).h-c'.m))=[7]:=f7
  rw [f7'] at hb9 st9
  have eset:(cs.set k { c' with o:=some (nt,"zoe",i+sp) }).set k (Pc.told { c' with o:=some (nt,"zoe",i+sp) } (([7]:List Int).length:Int) (i+sp))=cs.set k (c'.on nt (i+sp)):=by
   rw [List.set_set]
   rfl
  rw [eset] at hb9
  have k9:∀x o,H8 x=some o->(∀C dx fs,o≠.ins C dx fs)->(∀kvs,o≠.dK kvs)->H9 x=some o:=fun x o e n1 n2=>by
   obtain⟨_,_,lv9,⟨dp9,hat9⟩,_⟩:=cA hb8.pc hp
   exact kp9 x o e (aX e hbo8 (n1 _ _ _)) (aX e hat9 (n1 _ _ _)) (aX e st8.dc (n2 _))
  have elt9:=k9 _ _ (s8 _ _ (s7 _ _ e6)) (by intro _ _ _ z;cases z) (by intro _ z;cases z)
  have ky9:Ky H H9:=ky8.trans fun x o e p=>k9 x o e (by intro _ _ _ z;rw [z] at p;cases p) (by intro _ z;rw [z] at p;cases p)
  refine⟨lt,_,_,rfl,rfl,elt9,by have:=sizeLine_eq;show 1<sizeLine;omega,?_⟩
  have nlH:∀x o,H x=some o->AeU o=true->x≠lt:=fun x o e p=>aF (ky5 x o e p) nlt
  have no:=nol_upd (ys:=[V.str "ok"]++[V.str "ok"]) elt9
  obtain⟨HA,hh,eA⟩:∃HA,upd H9 lt (.lst ([V.str "ok"]++[V.str "ok"]))=HA/\HA lt=some (.lst [.str "ok",.str "ok"]):=⟨_,rfl,aD⟩
  have kyA:Ky H (upd H9 lt (.lst ([V.str "ok"]++[V.str "ok"]))):=fun x o e p=>by rw [aG (nlH x o e p)];exact ky9 x o e p
  rw [hh] at no kyA ⊢
  have T9:∀{T0:Addr} {po:Pos} {qu:Str},Tab H5 T0 po qu->Tab HA T0 po qu:=fun tb=>by
   obtain⟨q2,a1,a2,a3⟩:=tb.same S8
   refine Tab.nol no ⟨q2,k9 _ _ a1 (by intro _ _ _ z;cases z) (by intro _ z;cases z),a2,?_⟩
   rcases a3 with a3|⟨c',a3,a4⟩
   ·exact .inl a3
   ·exact .inr ⟨c',a3,k9 _ _ a4 (by intro _ _ _ z;cases z) (by intro _ z;cases z)⟩
  have hns:ns.length<63:=by have:=pu.nl;omega
  have puN:=pu.step hc op (i+sp)
  have BA:Bi CB CS CP T T2 HA b a (j+1) sp ev le (nt+1) i (cs.set k (c'.on nt (i+sp))) ws (ns++[c'.m]):=by
   refine⟨⟨pw,sh,d,pw',d',ps,_,⟨hb9.nol no,st9.nol no,zP (m:=c'.m) K4.hd fr hns ⟨by omega,by omega⟩,K4.sw,K4.lw,by rw [List.length_set];exact K4.lc,puN.so⟩,nd⟩,puN,T9 tb5,T9 t25,B4.tn⟩
  refine⟨_,rfl,_,_,rfl,rfl,sz (by show 2<=1000;decide),fun la nla=>?_⟩
  obtain⟨HB,hh,sB,eB⟩:=alo nla (.lst [.int (nt+1),.non])
  rw [hh]
  refine⟨_,rfl,sz (by show 2<=1000;decide),fun lb nlb=>?_⟩
  obtain⟨HC,hh,sC,eC⟩:=alo nlb (.lst [.str "ok",.str "ok"])
  rw [hh]
  have gd:SeqAt.shaped (.list [.str "ok",.str "ok"])=true:=by decide +kernel
  refine⟨_,_,.lst (SqL.of ((sB.trans sC) _ _ eA)) (.cons (.str _) (.cons (.str _) .nil)),.lst (SqL.of eC) (.cons (.str _) (.cons (.str _) .nil)),gd,gd,.inr ⟨_,rfl,?_⟩⟩
  have ez:PyData.eqv (.list [.str "ok",.str "ok"]) (.list [.str "ok",.str "ok"])=true:=by decide +kernel
  rw [ez]
  refine⟨la,_,_,_,rfl,rfl,SqL.of (sC _ _ eB),aM (j:=0) rfl,?_⟩
  exact t _ _ _ _ _ (BA.same (sB.trans sC)) (kyA.trans (Ky.of (aR.toT (sB.trans sC)))) (Int.le_refl _)
abbrev lawN:List Str:=["_law_script","_law_well_here","_law_work_here","_law_limits_here","_law_book","_law_given","_law_k","_law_seen_here","_law_thing"]
theorem iX:aP lawN ["_law_script"] (aH qC):=⟨rfl,rfl,rfl,by decide +kernel,rfl,by decide +kernel,by decide +kernel⟩
theorem ndTBT:(["_law_turn","_law_book","_law_thing"]:List Str).Nodup:=by decide +kernel
theorem rE:∀{xs ys:List PyData},PyData.eqvAll xs ys=true->xs.length=ys.length
 | [],[],_=>rfl
 | [],_::_,h=>by simp [PyData.eqvAll] at h
 | _::_,[],h=>by simp [PyData.eqvAll] at h
 | x::xs,y::ys,h=>by
  rw [PyData.eqvAll,Bool.and_eq_true] at h
  rw [List.length_cons,List.length_cons,rE h.2]
theorem seen_ne {cs cs':List Pc} {ws ws':Lm.Ps} {ns ns':List Int} {mo mo':Int} {D D':PyData} (h:lB cs ws ns mo D) (h':lB cs' ws' ns' mo' D') (n:cs.length≠cs'.length):PyData.eqv D D'=false:=by
 obtain⟨c1,d1,l1,rfl,a1,_⟩:=h
 obtain⟨c2,d2,l2,rfl,b1,_⟩:=h'
 cases z:PyData.eqv (vT c1 d1 l1 mo) (vT c2 d2 l2 mo') with
 | false=>rfl
 | true=>
  exfalso
  unfold vT at z
  rw [PyData.eqv,PyData.eqvAll,Bool.and_eq_true,PyData.eqv] at z
  have:=rE z.1
  rw [List.length_map,List.length_map,a1.length_eq,b1.length_eq] at this
  exact n this
theorem ok_tail {f CB CS CP T T2 fW fN fZ fL fS:Addr} {fdW fdN fdZ fdL fdS:FuncData} (G:Gb mg) (TB:Bl K mg CB)
  (GW:aJ P w K mg base CX0 1 fW fdW ["_law_script","_law_k"] (tL K)) (kW:keepIn K (.ref fW)=true) (bW:aO K fdW ["_law_script","_law_k"] []) (mW:mg "_law_well"=some (.ref fW))
  (GN:aJ P w K mg base CX0 1 fN fdN ["self"] (vO CB)) (bN:aO K fdN ["self"] []) (mN:dE K CB "moment_now" fN)
  (GZ:aJ P w K mg base CX0 2 fZ fdZ ["_law_well_here","_law_moment"] lF) (kZ:keepIn K (.ref fZ)=true) (bZ:aO K fdZ ["_law_well_here","_law_moment"] []) (mZ:mg "_law_no_line"=some (.ref fZ))
  (GB:aJ P w K mg base CX0 9 fL fdL ["_law_book","_law_line"] jL) (GC:aJ P w K mg base CX0 9 fL fdL ["_law_book","_law_line"] (fQ (jK CB CP))) (kL:keepIn K (.ref fL)=true) (bL:aO K fdL ["_law_book","_law_line"] []) (mL:mg "_law_done_line"=some (.ref fL))
  (GS:aJ P w K mg base CX0 9 fS fdS ["_law_book"] (tO K CB CS CP T2)) (kS:keepIn K (.ref fS)=true) (bS:aO K fdS ["_law_book"] []) (mS:mg "_law_seen"=some (.ref fS))
  {cdv:Value} {A:Around} {outer:List Env} {s:Shared} {H:Hp} {E:XK} (hr:Room 10 (A.deeper (PyProof.Rows.envOfC "law" (aH qC) s.heap.objs.size f cdv))):
  ∃t,PSs (jV CX0 P w K mg base lawN "law" (aH qC) f cdv A outer s H E).nox ((cS qC).drop 7) t/\∀(D:jI) (a0 b sr:Addr) (xs:List Int) (a:Lm.Ps) (j:Nat) (sp ev le nt mo:Int) (cs:List Pc) (ws:Lm.Ps) (ns:List Int) (Dt:PyData) (u1 u2 u3 u5 u6 u8:Option V) (H1:Hp),
   SqL K H1 a0 (xs.map V.int)->xs.length<=63->Bi CB CS CP T T2 H1 b ((5,25)::(25,48)::a) j sp ev le nt mo cs ws ns->j<=10->1<=ev->ev<=9->RdV K H1 (.ref sr) Dt->lB cs ws ns mo Dt->(∀H2,D.rt (.bl true) H2) ->
   t D [some (.ref a0),u1,u2,u3,some (.ref b),u5,u6,some (.ref sr),u8] H1:=by
 have rm:∀{k},k<=10->Room k (A.deeper (PyProof.Rows.envOfC "law" (aH qC) s.heap.objs.size f cdv)):=fun h=>hr.mono h
 refine⟨_,aC (eU PassesOwn.never rfl (jQ rfl G.range (aA aE (aA aE aB))) (cG (i:=6) iX.nd rfl (Or.inl rfl))
   (aC (aU (i:=8) iX.nd rfl (Or.inr rfl) (aL GZ (rm (by decide)) rfl mZ kZ bZ .nil aN (aA (aL GW (rm (by decide)) rfl mW kW bW .nil aN (aA (pv 0) (aA (pv 6) aB))) (aA (cM (pv 4) TB.cl mN GN (rm (by decide)) bN .nil aN) aB))))
   (aI (cJ (PW.pt (gH (cB (qN hr.units) (hZ (NB:=["_law_turn","_law_book","_law_thing"]) (n:=1) (js:=[4,8]) (g:=dQ 0) (cl:=[("_law_thing",s.heap.objs.size+1+1),("_law_book",s.heap.objs.size+1)]) rfl (by decide +kernel) (by decide +kernel) rfl
     (fY.of rfl (aQ rfl (aQ rfl cF)) (aQ (fun z=>nomatch z) (aQ (fun z=>nomatch z) (aQ (fun z=>nomatch z) (aQ (fun _=>rfl) (aQ (fun _=>rfl) cF))))) rfl
      (fun k j h=>match k,j,h with|0,_,rfl=>rfl|1,_,rfl=>rfl|k+2,_,h=>absurd h (by simp)) (aQ ⟨.inl rfl,.inl rfl,rfl⟩ (aQ ⟨.inl rfl,.inl rfl,rfl⟩ cF)))
     (nC rfl G.range (aA aE aB)) (fun C s H fp pn=>cG (i:=0) ndTBT rfl (Or.inl rfl) (.inr rfl)) (fun C s H fp pn=>gN) (fun C s H fp pn=>aL GB (rm (by decide)) rfl mL kL bL .nil aN (aA (pv 1) (aA (pv 2) aB)))) (cN (aA aZ (aA aZ aB))) (bX _))
    (eT (cB (qN hr.units) (aL GS (rm (by decide)) rfl mS kS bS .nil aN (aA (pv 4) aB)) (pv 7) (bX _))))) (aI (aY lR)) bV))))
   (aI (aY (iK (eJ gO (aL GC (rm (by decide)) rfl mL kL bL .nil aN (aA (pv 4) (aA (cC (aA aZ (aA aE (aA aE aB)))) aB))) aZ (bX _))
    (iJ (eJ (qN hr.units) (aL GS (rm (by decide)) rfl mS kS bS .nil aN (aA (pv 4) aB)) (pv 7) (bX _)))))),?_⟩
 intro D a0 b sr xs a j sp ev le nt mo cs ws ns Dt u1 u2 u3 u5 u6 u8 H1 hS lx B hj he1 he9 hR sn fin
 have sz:∀{n:Nat},n<=1000->n<=sizeLine:=fun h=>Nat.le_of_lt (eS h)
 have pu:=B.pu
 have gdD:=AaL pu.so sn
 have shD:=gdD.shaped (by decide)
 refine⟨1,31,rfl,⟨by decide,by decide,by decide,by decide⟩,?_⟩
 refine iC (lo:=1) (n:=30) (fun i σ G=>∃u1 u2 u3 u5 u6 u8,σ=[some (.ref a0),u1,u2,u3,some (.ref b),u5,u6,some (.ref sr),u8]/\Bi CB CS CP T T2 G b ((5,25)::(25,48)::a) j sp ev le nt mo cs ws ns/\SqL K G a0 (xs.map V.int)/\RdV K G (.ref sr) Dt) ⟨_,_,_,_,_,_,rfl,B,hS,hR⟩ ?_ ?_
 ·rintro i σ G hi ⟨u1,u2,u3,u5,u6,u8,rfl,B,hS,hR⟩
  refine eQ ?_
  have ek:(1:Int)+(i:Int)=((1+i:Nat):Int):=by omega
  refine⟨_,rfl,_,rfl,a0,xs,1+i,by rw [ek];rfl,hS,lx,fun wl G1 s1 nw hw=>?_⟩
  obtain⟨pw,sh,d,pw',d',ps,kvs,K1,_⟩:=(B.same s1).ex
  obtain⟨dx,hbo⟩:=K1.bk.ob
  refine⟨_,rfl,b,dx,_,rfl,hbo,rfl,b,pw,sh,d,sp,ev,le,_,nt,mo,rfl,⟨dx,hbo⟩,wl,mo,rfl,hw,fun v G2 kp ln=>?_⟩
  have s2:aR G G2:=fun x o e=>kp.at_ x o (aF e nw) (s1 x o e)
  refine⟨2,rfl,by decide,by decide,fun acc na=>?_⟩
  refine⟨fun i m ys G3=>m=2-i/\i<=2/\ys=List.replicate i (V.str "line")/\aR G2 G3/\G3 acc=some (.lst ys),⟨_,rfl,Nat.zero_le _,rfl,aK na,aD⟩,?_⟩
  rintro i' m ys G3 ⟨rfl,hi',rfl,s3,e3⟩
  refine⟨e3,?_⟩
  by_cases hlt:i'<2
  ·refine .inr ⟨hlt,?_⟩
   rintro x G' ⟨rfl,rfl⟩
   refine⟨rfl,?_⟩
   refine gM ?_
   refine eP ?_
   refine⟨_,rfl,_,rfl,_,_,rfl,ln.same s3,fun G4 s4=>⟨s4 _ _ e3,by rw [List.length_replicate];have:=sizeLine_eq;omega,2-(i' + 1),by omega,rfl,hlt,?_,fun x o e=>?_,aD⟩⟩
   ·rw [List.replicate_succ']
   ·rw [aG (aF e na)]
    exact s4 _ _ (s3 _ _ e)
  have e2:i'=2:=by omega
  subst e2
  refine .inl ⟨Nat.le_refl _,?_⟩
  refine⟨sz (by show 2<=1000;decide),fun lb nb=>?_⟩
  obtain⟨G4,hh,s4,e4⟩:=alo nb (.lst [.str "line",.str "line"])
  rw [hh]
  have gd:SeqAt.shaped (.list [.str "line",.str "line"])=true:=by decide +kernel
  have ez:PyData.eqv (.list [.str "line",.str "line"]) (.list [.str "line",.str "line"])=true:=by decide +kernel
  refine⟨_,_,.lst (SqL.of (s4 _ _ e3)) (.cons (.str _) (.cons (.str _) .nil)),.lst (SqL.of e4) (.cons (.str _) (.cons (.str _) .nil)),gd,gd,_,rfl,?_⟩
  rw [ez]
  refine dH ?_
  have S4:aR G G4:=s2.trans (s3.trans s4)
  have B4:=B.same S4
  obtain⟨pw,sh,d,pw',d',ps,kvs,K4,_⟩:=B4.ex
  refine⟨_,rfl,b,pw,sh,d,pw',d',sp,ev,le,_,nt,mo,ps,cs,ws,kvs,ns,rfl,K4,B4.t2,fun r5 D5 G5 k5 tb5 rd5 sn5=>?_⟩
  have st5:=cQ.t B4.t2 k5
  have eD:D5=Dt:=AeE pu.lows sn5 sn
  subst eD
  have hR5:=(hR.sameT (aR.toT S4)).sameT st5
  refine⟨_,rfl,_,_,rd5,hR5,shD,shD,_,rfl,?_⟩
  rw [SeqAt.eqv_refl _ gdD.1]
  exact dH ⟨_,_,_,_,_,_,rfl,B4.keep2 k5 tb5,(hS.sameT (aR.toT S4)).sameT st5,hR5⟩
 ·rintro σ G ⟨u1,u2,u3,u5,u6,u8,rfl,B,hS,hR⟩
  refine⟨_,rfl,sz (by show 3<=1000;decide),fun t n=>?_⟩
  obtain⟨G1,hh,s1,e1⟩:=alo n (.tup [.str "cut",.int 1,.int 47])
  rw [hh]
  have B1:=B.same s1
  obtain⟨pw,sh,d,pw',d',ps,kvs,K1,nd⟩:=B1.ex
  obtain⟨dx,hbo⟩:=K1.bk.ob
  have ln:=pu.len
  obtain⟨c,hc⟩:∃c,cs[1]?=some c:=⟨_,List.getElem?_eq_getElem (by rw [ln];show 1<a.length+1+1;omega)⟩
  obtain⟨p,hp⟩:∃p,ps[1]?=some p:=⟨_,List.getElem?_eq_getElem (by have:=K1.bk.pc.length;have:=(List.getElem?_eq_some_iff.mp hc).1;omega)⟩
  have mc:=List.mem_of_getElem? hc
  have eq:(c.l,c.h)=(25,48):=by
   have h:=congrArg (fun l:Lm.Ps=>l[1]?) pu.lh
   simp only [List.getElem?_map,hc] at h
   exact Option.some.inj h
  have el:c.l=25:=congrArg Prod.fst eq
  have eh:c.h=48:=congrArg Prod.snd eq
  have en:c.n=1:=by
   have h:=congrArg (fun l:List Int=>l[1]?) pu.nm
   simp only [List.getElem?_map,hc] at h
   have h2:(List.range ((5,25)::(25,48)::a:Lm.Ps).length)[1]?=some 1:=by
    rw [List.getElem?_range (by show 1<a.length+1+1;omega)]
   rw [h2] at h
   exact Option.some.inj h
  have lmc:=pu.lm c mc
  have lt:∀e ∈ cs,e.n<(((5,25)::(25,48)::a:Lm.Ps).length:Int):=fun e he=>by
   have:e.n ∈ cs.map Pc.n:=List.mem_map.mpr ⟨e,he,rfl⟩
   rw [pu.nm] at this
   obtain⟨k,hk,ek⟩:=List.mem_map.mp this
   have:=List.mem_range.mp hk
   rw [<- ek]
   exact Int.ofNat_lt.mpr this
  have la:=pu.la
  refine⟨rfl,b,t,1,47,rfl,e1,⟨dx,_,hbo,rfl⟩,b,pw,sh,d,sp,ev,le,_,nt,mo,47,ps,cs,1,p,c,by rw [en],K1.bk,hp,hc,pu.nums,by omega,by omega,fun _=>by omega,lt,by rw [ln];omega,fun q G2 kp hb2=>⟨rfl,?_⟩⟩
  obtain⟨_,_,lv,⟨dp,hat⟩,_⟩:=cA K1.bk.pc hp
  obtain⟨dz,hsh⟩:=K1.st.ob
  have kt:∀x o,G1 x=some o->(∀C dx fs,o≠.ins C dx fs)->(∀kv,o≠.dK kv)->G2 x=some o:=fun x o e n1 n2=>kp x o e (aX e hbo (n1 _ _ _)) (aX e K1.bk.dc (n2 _)) (aX e hat (n1 _ _ _))
  have st2:cO CS G2 sh pw' d' ws kvs:=by
   obtain⟨_,⟨ys,h2,h3⟩,h4⟩:=K1.st
   refine⟨⟨dz,kp _ _ hsh ?_ (aX hsh K1.bk.dc (by intro z;cases z)) ?_⟩,⟨ys,kt _ _ h2 (by intro _ _ _ z;cases z) (by intro _ z;cases z),bY (fun v q ⟨b,z1,z2⟩=>⟨b,z1,kt _ _ z2 (by intro _ _ _ z;cases z) (by intro _ z;cases z)⟩) h3⟩,kp _ _ h4 (aX h4 hbo (by intro z;cases z)) nd.symm (aX h4 hat (by intro z;cases z))⟩
   ·exact aX hsh hbo (by intro z;injection z with _ _ z;exact absurd (congrArg List.length z) (by show ¬ 2=9;decide))
   ·exact aX hsh hat (by intro z;injection z with _ _ z;exact absurd (congrArg List.length z) (by show ¬ 2=5;decide))
  have tb2:Tab G2 T2 wH lS:=by
   obtain⟨q2,a1,a2,a3⟩:=B1.t2
   refine⟨q2,kt _ _ a1 (by intro _ _ _ z;cases z) (by intro _ z;cases z),a2,?_⟩
   rcases a3 with a3|⟨c',a3,a4⟩
   ·exact .inl a3
   ·exact .inr ⟨c',a3,kt _ _ a4 (by intro _ _ _ z;cases z) (by intro _ z;cases z)⟩
  have so2:∀e ∈ cs.set 1 { c with h:=47 }++[⟨(((5,25)::(25,48)::a:Lm.Ps).length:Int),47,c.h,47,none⟩],∀t,e.o=some t->PyData.strOk t.2.1=true:=fun e he t et=>by
   rcases List.mem_append.mp he with he|he
   ·rcases pC he with rfl|⟨i,_,hi⟩
    ·exact pu.so c mc t et
    ·exact pu.so e (List.mem_of_getElem? hi) t et
   ·rw [List.mem_singleton] at he
    subst he
    cases et
  have K2:Bk CB CS CP G2 b pw sh d pw' d' sp ev le _ nt mo (ps++[q]) _ ws kvs ns:=⟨hb2,st2,K1.hd,K1.sw,K1.lw,by rw [List.length_append,List.length_set,ln];show a.length+1+1+1<64;have:a.length+1+1<=6:=la;omega,so2⟩
  refine⟨rfl,_,rfl,eP ?_⟩
  refine⟨_,rfl,b,pw,sh,d,pw',d',sp,ev,le,_,nt,mo,_,_,ws,kvs,ns,rfl,K2,tb2,fun r5 D5 G5 k5 tb5 rd5 sn5=>?_⟩
  have hR5:RdV K G5 (.ref sr) Dt:=by
   have h1:=hR.sameT (aR.toT s1)
   have h2:RdV K G2 (.ref sr) Dt:=AeO (fun x o e pl=>kt x o e (by intro _ _ _ z;rw [z] at pl;cases pl) (by intro _ z;rw [z] at pl;cases pl)) h1
   exact h2.sameT (cQ.t tb2 k5)
  refine⟨_,rfl,_,_,rd5,hR5,(AaL so2 sn5).shaped (by decide),shD,?_⟩
  rw [seen_ne sn5 sn (by rw [List.length_append,List.length_set];show _+1≠_;omega)]
  exact fin _
theorem AaE {H:Hp} {T:Addr} {pos:Pos} {q:Str} (h:H T=some (.tbl #[])):Tab H T pos q:=⟨#[],h,trivial,.inl rfl⟩
def mU (ps:Lm.Ps):Lm.Ps:=(ps.filter fun q=>decide (0<q.1)).map fun q=>(q.1+60,q.2+60)
theorem lH {ps:Lm.Ps} {q:Int × Int} (h:q ∈ mU ps):∃r ∈ ps,0<r.1/\q=(r.1+60,r.2+60):=by
 obtain⟨r,hr,rfl⟩:=List.mem_map.mp h
 obtain⟨h1,h2⟩:=List.mem_filter.mp hr
 exact⟨r,h1,of_decide_eq_true h2,rfl⟩
theorem AaJ:∀{ps:Lm.Ps},Lm.Wk ps->Lm.Wk (mU ps)
 | [],_=>trivial
 | q::ps,w=>by
  have ih:=AaJ w.2.2
  unfold mU at ih ⊢
  rw [List.filter_cons]
  split
  ·refine⟨by show q.1+60<q.2+60;have:=w.1;omega,fun r hr=>?_,ih⟩
   obtain⟨s,hs,_,rfl⟩:=lH hr
   have:=w.2.1 s hs
   show q.2+60<=s.1+60
   omega
  ·exact ih
theorem vR (ps:Lm.Ps):(mU ps).length<=ps.length:=by
 unfold mU
 rw [List.length_map]
 exact List.length_filter_le _ _
theorem sM {ps:Lm.Ps} {i:Nat} {q:Int × Int} (h:ps[i]?=some q):mU (ps.take (i+1))=if 0<q.1 then mU (ps.take i)++[(q.1+60,q.2+60)] else mU (ps.take i):=by
 unfold mU
 rw [List.take_add_one,h]
 by_cases z:0<q.1
 ·rw [if_pos z]
  simp [z]
 ·rw [if_neg z]
  simp [z]
abbrev oM (ps:Lm.Ps):Lm.Ps:=(5,25)::(25,48)::mU ps
theorem allW_wk {ps:Lm.Ps} (w:Lm.Wk ps):Lm.Wk (oM ps):=by
 refine⟨by decide,fun r hr=>?_,by decide,fun r hr=>?_,AaJ w⟩
 ·rcases List.mem_cons.mp hr with rfl|hr
  ·decide
  ·obtain⟨s,_,h,rfl⟩:=lH hr
   show (25:Int)<=s.1+60
   omega
 ·obtain⟨s,_,h,rfl⟩:=lH hr
  show (48:Int)<=s.1+60
  omega
theorem AfE:∀(t:Lm.Ps) (k:Nat),(pcs k t).map (fun c=>(c.l,c.h))=t
 | [],_=>rfl
 | q::t,k=>by
  show (q.1,q.2)::(pcs (k+1) t).map _=q::t
  rw [AfE t]
theorem AfC:∀(t:Lm.Ps) (k:Nat),(pcs k t).map Pc.n=(List.range' k t.length).map Int.ofNat
 | [],_=>rfl
 | q::t,k=>by
  show (k:Int)::(pcs (k+1) t).map _=_
  rw [AfC t,List.length_cons,List.range'_succ]
  rfl
theorem pA:∀{t:Lm.Ps} {k:Nat} {c:Pc},c ∈ pcs k t->∃q ∈ t,c.l=q.1/\c.h=q.2/\c.m=q.1/\c.o=none
 | q::t,k,c,h=>by
  rcases List.mem_cons.mp h with rfl|h
  ·exact⟨q,List.mem_cons_self,rfl,rfl,rfl,rfl⟩
  ·obtain⟨r,hr,g⟩:=pA h
   exact⟨r,List.mem_cons_of_mem _ hr,g⟩
theorem wk_lt:∀{a:Lm.Ps},Lm.Wk a->∀q ∈ a,q.1<q.2
 | q::a,w,r,hr=>by
  rcases List.mem_cons.mp hr with rfl|hr
  ·exact w.1
  ·exact wk_lt w.2.2 r hr
theorem pu_new {a ws:Lm.Ps} (wk:Lm.Wk a) (wm:∀x,Lm.mem ws x↔Lm.mem a x) (bd:∀q ∈ a,-(2 ^ 60)<=q.1/\q.2<=2 ^ 60) (la:a.length<=6) (lw:ws.length<=a.length):Pu a 0 0 (pcs 0 a) ws []:=by
 refine⟨AfE a 0,by rw [AfC,List.range_eq_range'],fun c hc=>?_,fun c hc t e=>?_,fun x=>⟨(fun h=>by cases h),fun⟨c,hc,h1,h2⟩=>?_⟩,Nat.le_refl _,wk,wm,bd,la,by omega,Int.le_refl _⟩
 ·obtain⟨q,hq,h1,h2,h3,_⟩:=pA hc
  have:=wk_lt wk q hq
  omega
 ·obtain⟨q,hq,_,_,_,h4⟩:=pA hc
  rw [h4] at e
  cases e
 ·obtain⟨q,hq,g1,_,g3,_⟩:=pA hc
  omega
theorem ndLH:(["_law_low","_law_high"]:List Str).Nodup:=by decide +kernel
def AaH (K:Frag) (TG TP:Addr):Sp:=fun vs H Q _=>∃(a:Addr) (ns:List Int),vs=[.ref a]/\SqL K H a (ns.map V.int)/\ns.length<=63/\H TG=some (.tbl #[])/\H TP=some (.tbl #[])/\∀H',Q (.bl true) H'
theorem mk_work {H:Hp} {x dx C:Addr} (nx:H x=none) (ndx:H dx=none):aR H (upd (upd H dx (.own x)) x (.ins C dx [])):=fun b o e=>by
 rw [aG (aF e nx),aG (aF e ndx)]
 exact e
theorem ok_law {f CB CS CP T T2 fW fM fI fK fD fE fN fZ fL fS:Addr} {fd fdW fdM fdI fdK fdD fdE fdN fdZ fdL fdS:FuncData} (F:Fun K "law" "law" qC f fd) (G:Gb mg) (TB:Bl K mg CB) (nT:T≠T2)
  (GW:aJ P w K mg base CX0 1 fW fdW ["_law_script","_law_k"] (tL K)) (kW:keepIn K (.ref fW)=true) (bW:aO K fdW ["_law_script","_law_k"] []) (mW:mg "_law_well"=some (.ref fW))
  (GM:aJ P w K mg base CX0 2 fM fdM ["_law_well_here"] xV) (kM:keepIn K (.ref fM)=true) (bM:aO K fdM ["_law_well_here"] []) (mM:mg "_law_work"=some (.ref fM))
  (GI:aJ P w K mg base CX0 2 fI fdI ["_law_well_here"] xW) (kI:keepIn K (.ref fI)=true) (bI:aO K fdI ["_law_well_here"] []) (mI:mg "_law_limits"=some (.ref fI))
  (GK:aJ P w K mg base CX0 9 fK fdK ["self","work","span","every","least"] (tW CB CS CP)) (bK:aO K fdK ["self","work","span","every","least"] []) (MK:Mk K CB fK)
  (GD:aJ P w K mg base CX0 1 fD fdD ["_law_well_here","_law_most"] mJ) (kD:keepIn K (.ref fD)=true) (bD:aO K fdD ["_law_well_here","_law_most"] []) (mD:mg "_law_draw"=some (.ref fD))
  (GE:aJ P w K mg base CX0 10 fE fdE ["_law_book","_law_moment","_law_token"] (tV CB CS CP T T2)) (kE:keepIn K (.ref fE)=true) (bE:aO K fdE ["_law_book","_law_moment","_law_token"] []) (mE:mg "_law_lent"=some (.ref fE))
  (GN:aJ P w K mg base CX0 1 fN fdN ["self"] (vO CB)) (bN:aO K fdN ["self"] []) (mN:dE K CB "moment_now" fN)
  (GZ:aJ P w K mg base CX0 2 fZ fdZ ["_law_well_here","_law_moment"] lF) (kZ:keepIn K (.ref fZ)=true) (bZ:aO K fdZ ["_law_well_here","_law_moment"] []) (mZ:mg "_law_no_line"=some (.ref fZ))
  (GB:aJ P w K mg base CX0 9 fL fdL ["_law_book","_law_line"] jL) (GC:aJ P w K mg base CX0 9 fL fdL ["_law_book","_law_line"] (fQ (jK CB CP))) (kL:keepIn K (.ref fL)=true) (bL:aO K fdL ["_law_book","_law_line"] []) (mL:mg "_law_done_line"=some (.ref fL))
  (GS:aJ P w K mg base CX0 9 fS fdS ["_law_book"] (tO K CB CS CP T2)) (kS:keepIn K (.ref fS)=true) (bS:aO K fdS ["_law_book"] []) (mS:mg "_law_seen"=some (.ref fS)):
  aJ P w K mg base CX0 11 f fd ["_law_script"] (AaH K T T2):=by
 refine F.ok iX (fun vs H Q E h=>?_) (fun cdv A outer s H vs Q E hr h=>?_)
 ·obtain⟨a,ns,rfl,_⟩:=h
  rfl
 ·obtain⟨a0,xs,rfl,hS,lx,hT1,hT2,q⟩:=h
  have rm:∀{k},k<=10->Room k (A.deeper (PyProof.Rows.envOfC "law" (aH qC) s.heap.objs.size f cdv)):=fun h=>hr.mono h
  obtain⟨tR,pR,hR⟩:=ok_tail (f:=f) (T:=T) (cdv:=cdv) (A:=A) (outer:=outer) (s:=s) (H:=H) (E:=E) G TB GW kW bW mW GN bN mN GZ kZ bZ mZ GB GC kL bL mL GS kS bS mS hr
  refine⟨_,aC (aU (i:=1) iX.nd rfl (Or.inl rfl) (aL GW (rm (by decide)) rfl mW kW bW .nil aN (aA (pv 0) (aA aE aB))))
   (aC (aU (i:=2) iX.nd rfl (Or.inl rfl) (bU eO (cC (aA (cC (aA aE (aA aE aB))) (aA (cC (aA aE (aA aE aB))) aB)))
    (dU dW (by rfl) G.tuple gZ (aA (hZ (NB:=["_law_low","_law_high"]) (n:=2) (js:=[]) (g:=gTup K 2 (lU (dQ 0) (lU (dQ 1) gNil))) (cl:=[]) rfl (by decide +kernel) (by decide +kernel) rfl
     (fY.of rfl cF (aQ (fun z=>nomatch z) (aQ (fun z=>nomatch z) (aQ (fun z=>nomatch z) cF))) rfl (fun k j h=>absurd h (by simp)) cF)
     (jC (aL GM (rm (by decide)) rfl mM kM bM .nil aN (aA (pv 1) aB))) (fun C s H fp pn=>jD (n:=2) rfl (cX (cG (i:=0) ndLH rfl (Or.inl rfl) (.inr rfl)) (cX (cG (i:=1) ndLH rfl (Or.inl rfl) (.inr rfl)) gB)))
     (fun C s H fp pn=>jP (cB AaZ (pv 0) aE (bX _))) (fun C s H fp pn=>cC (aA (bU dG (pv 0) aE) (aA (bU dG (pv 1) aE) aB)))) aB))))
   (aC (aU (i:=3) iX.nd rfl (Or.inl rfl) (aL GI (rm (by decide)) rfl mI kI bI .nil aN (aA (pv 1) aB)))
   (aC (aU (i:=4) iX.nd rfl (Or.inr rfl) (uS MK GK (rm (by decide)) rfl TB.mgC bK .nil aN (aA (pv 2) (aA (bJ bQ (pv 3) aE (fun _ _=>rfl)) (aA (bJ bQ (pv 3) aE (fun _ _=>rfl)) (aA (bJ bQ (pv 3) aE (fun _ _=>rfl)) aB))))))
   (aC (aU (i:=5) iX.nd rfl (Or.inl rfl) aE)
   (aC (eU PassesOwn.never rfl (nC rfl G.range (aA (aL GD (rm (by decide)) rfl mD kD bD .nil aN (aA (pv 1) (aA aE aB))) aB)) (cG (i:=6) iX.nd rfl (Or.inl rfl))
    (aC (aU (i:=5) iX.nd rfl (Or.inl rfl) (aL GE hr rfl mE kE bE .nil aN (aA (pv 4) (aA (pv 6) (aA (pv 5) aB)))))
    (aI (cJ (cB qO (pv 5) dX (bX _)) (aI (aY lR)) bV))))
   (aC (aU (i:=7) iX.nd rfl (Or.inl rfl) (aL GS (rm (by decide)) rfl mS kS bS .nil aN (aA (pv 4) aB)))
   pR)))))),?_⟩
  have sz:∀{n:Nat},n<=1000->n<=sizeLine:=fun h=>Nat.le_of_lt (eS h)
  have sl:sizeLine=16777216:=sizeLine_eq
  refine⟨_,rfl,a0,xs,0,rfl,hS,lx,fun wl H1 s1 nw hw=>?_⟩
  refine⟨sz (by show 2<=1000;decide),fun q1 n1=>?_⟩
  obtain⟨H2,hh,s2,e2⟩:=alo n1 (.tup [.int 5,.int 25])
  rw [hh]
  refine⟨sz (by show 2<=1000;decide),fun q2 n2=>?_⟩
  obtain⟨H3,hh,s3,e3⟩:=alo n2 (.tup [.int 25,.int 48])
  rw [hh]
  refine⟨sz (by show 2<=1000;decide),fun q3 n3=>?_⟩
  obtain⟨H4,hh,s4,e4⟩:=alo n3 (.tup [.ref q1,.ref q2])
  rw [hh]
  have w4:=hw.same (s2.trans (s3.trans s4))
  refine⟨_,rfl,wl,rfl,w4,fun p ps H5 k5 wm5 wk ln bd=>?_⟩
  have SS5:aR H H5:=fun x o e=>k5.at_ x o (aF e nw) ((s1.trans (s2.trans (s3.trans s4))) x o e)
  have e1:=k5.tup w4 ((s3.trans s4) _ _ e2)
  have e2:=k5.tup w4 (s4 _ _ e3)
  have e3:=k5.tup w4 e4
  obtain⟨us,u1,u2⟩:=wm5
  have lu:us.length=ps.length:=u2.length
  refine⟨p,rfl,⟨_,SqT.of u1⟩,fun acc na=>?_⟩
  refine⟨fun i m ys G=>m=us.length-i/\i<=us.length/\cZ G ys (mU (ps.take i))/\aR H5 G/\G acc=some (.lst ys),⟨_,rfl,Nat.zero_le _,.nil,aK na,aD⟩,?_⟩
  rintro i m ys G ⟨rfl,hi,pr,sg,hA⟩
  refine⟨hA,?_⟩
  by_cases hlt:i<us.length
  ·refine .inr ⟨⟨us,_,SqT.of (sg _ _ u1),List.getElem?_eq_getElem hlt⟩,?_⟩
   rintro y G' ⟨rfl,hy⟩
   have ey:=hy us (SqT.of (sg _ _ u1))
   obtain⟨r,hr',b',rfl,hb'⟩:=cA u2 ey
   have ly:ys.length<=4:=by
    rw [pr.length]
    have:=vR (ps.take i)
    rw [List.length_take] at this
    omega
   refine⟨b',_,rfl,SqT.of (sg _ _ hb'),rfl,_,_,rfl,_,_,rfl,rfl,rfl,?_⟩
   refine⟨_,rfl,_,_,rfl,rfl,_,rfl,?_⟩
   refine eF (fun hc=>?_) (fun hc=>?_)
   ·have hc:=of_decide_eq_true hc
    refine⟨_,rfl,_,_,rfl,rfl,_,rfl,_,_,rfl,rfl,sz (by show 2<=1000;decide),fun t nt=>?_⟩
    obtain⟨G2,hh,s6,e6⟩:=alo nt (.tup [.int (r.1+60),.int (r.2+60)])
    rw [hh]
    refine⟨s6 _ _ hA,by omega,us.length-(i+1),by omega,rfl,hlt,?_,fun x o e=>?_,aD⟩
    ·rw [sM hr',if_pos hc]
     have kp:∀x xs',G2 x=some (.tup xs')->(upd G2 acc (.lst (ys++[.ref t]))) x=some (.tup xs'):=fun x xs' e=>by rw [aG (aX e (s6 _ _ hA) (by intro z;cases z))];exact e
     exact dB (bY (fun v q ⟨b,z1,z2⟩=>⟨b,z1,kp _ _ (s6 _ _ z2)⟩) pr) ⟨t,rfl,kp _ _ e6⟩
    ·rw [aG (aF e na)]
     exact s6 _ _ (sg _ _ e)
   ·have hc:=of_decide_eq_false (Bool.eq_false_iff.mpr hc)
    refine⟨us.length-(i+1),by omega,rfl,hlt,?_,sg,hA⟩
    rw [sM hr',if_neg (by omega)]
    exact pr
  have ei:i=us.length:=by omega
  subst ei
  rw [lu,List.take_length] at pr
  refine .inl ⟨⟨us,SqT.of (sg _ _ u1),Nat.le_refl _⟩,?_⟩
  refine⟨acc,ys,rfl,.inl ⟨SqL.of hA,fun tt ntt=>?_⟩⟩
  obtain⟨H6,hh,s6,e6⟩:=alo ntt (.tup ys)
  rw [hh]
  have S6:=sg.trans s6
  have l6:=vR ps
  have ly:ys.length<=4:=by rw [pr.length];omega
  refine⟨q3,tt,_,ys,rfl,rfl,S6 _ _ e3,e6,by show 2+ys.length<=sizeLine;omega,fun wp H7 s7 e7=>?_⟩
  have S7:=S6.trans s7
  have W7:dR H7 wp (oM ps):=⟨_,e7,.cons ⟨q1,rfl,S7 _ _ e1⟩ (.cons ⟨q2,rfl,S7 _ _ e2⟩ (bY (fun v q ⟨b,z1,z2⟩=>⟨b,z1,(s6.trans s7) _ _ z2⟩) pr))⟩
  have SS7:=SS5.trans S7
  refine⟨_,rfl,wl,rfl,k5.wl.same S7,fun lp sp ev le H8 k8 e8 p1 p2 p3 p4 p5 p6=>?_⟩
  have W8:dR H8 wp (oM ps):=by
   obtain⟨vs,v1,v2⟩:=W7
   exact⟨vs,k8.tup (k5.wl.same S7) v1,qL k8 (k5.wl.same S7) v2⟩
  have SS8:aR H H8:=fun x o e=>k8.at_ x o (aF e nw) (SS7 x o e)
  refine⟨_,rfl,_,rfl,lp,_,_,_,rfl,rfl,SqT.of e8,aM (j:=0) rfl,_,rfl,lp,_,_,_,rfl,rfl,SqT.of e8,aM (j:=1) rfl,_,rfl,lp,_,_,_,rfl,rfl,SqT.of e8,aM (j:=2) rfl,fun b dx nb ndx ne=>?_⟩
  have s9:=mk_work (C:=CB) nb ndx
  have e9:(upd (upd H8 dx (.own b)) b (.ins CB dx [])) b=some (.ins CB dx []):=aD
  generalize upd (upd H8 dx (.own b)) b (.ins CB dx [])=H9 at s9 e9 ⊢
  have wkA:=allW_wk wk
  have laA:(oM ps).length<=6:=by show (mU ps).length+1+1<=6;omega
  refine⟨b,dx,wp,oM ps,sp,ev,le,rfl,e9,W8.same s9,wkA,by omega,p1,p3,by omega,p5,fun sh spw sd d ws qs HA kA _ _ nsd SA shw memw lws BA=>?_⟩
  refine⟨rfl,?_⟩
  have k8A:∀{x:Addr} {o:HO},H8 x=some o->HA x=some o:=fun {x o} e=>kA x o (s9 _ _ e) (aF e nb)
  have SSA:aR H HA:=fun x o e=>k8A (SS8 x o e)
  have hwA:Wl HA wl:=by
   obtain⟨a,b,c,z⟩:=k8.wl
   exact⟨a,b,c,k8A z⟩
  have bdA:∀q ∈ oM ps,-(2 ^ 60)<=q.1/\q.2<=2 ^ 60:=fun q hq=>by
   rcases List.mem_cons.mp hq with rfl|hq
   ·decide
   rcases List.mem_cons.mp hq with rfl|hq
   ·decide
   obtain⟨r,hr',h0,rfl⟩:=lH hq
   have:=bd r hr'
   exact⟨by show _<=r.1+60;omega,by show r.2+60<=_;omega⟩
  have puA:=pu_new wkA memw bdA laA lws
  have BiA:Bi CB CS CP T T2 HA b (oM ps) 0 sp ev le 0 0 (pcs 0 (oM ps)) ws []:=
   ⟨⟨wp,sh,d,spw,sd,qs,[],⟨BA,SA,⟨rfl,List.nodup_nil,by decide,(fun x hx=>by cases hx),fun x hx=>by cases hx⟩,shw,by omega,by rw [uT];omega,puA.so⟩,nsd.symm⟩,puA,AaE (SSA _ _ hT1),AaE (SSA _ _ hT2),nT.symm⟩
  refine⟨_,rfl,wl,9,rfl,hwA,by decide,by decide,fun rn HB kB r0 r9=>?_⟩
  have SSB:aR H HB:=fun x o e=>kB.at_ x o (aF e nw) (SSA x o e)
  have BiB:Bi CB CS CP T T2 HB b (oM ps) 0 sp ev le 0 0 (pcs 0 (oM ps)) ws []:=by
   have no:NoL HA HB:=fun x o e n=>by
    obtain⟨a,b,c,z⟩:=hwA
    exact kB.at_ x o (aX e z (n _)) e
   obtain⟨pw,sh,d,pw',d',ps',kvs,K0,nd⟩:=BiA.ex
   exact⟨⟨pw,sh,d,pw',d',ps',kvs,⟨K0.bk.nol no,K0.st.nol no,K0.hd,K0.sw,K0.lw,K0.lc,K0.so⟩,nd⟩,BiA.pu,Tab.nol no BiA.t1,Tab.nol no BiA.t2,BiA.tn⟩
  refine⟨rn,rfl,by omega,by omega,?_⟩
  refine iC (lo:=0) (n:=rn.toNat) (fun i σ G=>∃(nt mo:Int) (cs:List Pc) (ns:List Int) (u1 u2 u3 u6 u7 u8:Option V),σ=[some (.ref a0),u1,u2,u3,some (.ref b),some (.int nt),u6,u7,u8]/\Bi CB CS CP T T2 G b (oM ps) i sp ev le nt mo cs ws ns/\mo<=i/\SqL K G a0 (xs.map V.int))
   ⟨0,0,_,[],_,_,_,_,_,_,rfl,BiB,Int.le_refl _,hS.sameT (aR.toT SSB)⟩ ?_ ?_
  ·rintro i σ G hi ⟨nt,mo,cs,ns,u1,u2,u3,u6,u7,u8,rfl,B,hm,hSG⟩
   refine eQ ?_
   refine⟨_,rfl,_,rfl,_,rfl,b,oM ps,i,sp,ev,le,nt,mo,0+(i:Int),cs,ws,ns,rfl,B,by omega,by omega,p3,fun nt' mo' cs' ns' G' B' ky hm'=>?_⟩
   exact⟨_,rfl,rfl,_,rfl,dH ⟨nt',mo',cs',ns',_,_,_,_,_,_,rfl,B',by omega,hSG.ky ky⟩⟩
  ·rintro σ G ⟨nt,mo,cs,ns,u1,u2,u3,u6,u7,u8,rfl,B,hm,hSG⟩
   obtain⟨pw,sh,d,pw',d',ps',kvs,K1,_⟩:=B.ex
   refine⟨_,rfl,b,pw,sh,d,pw',d',sp,ev,le,_,nt,mo,ps',cs,ws,kvs,ns,rfl,K1,B.t2,fun r D G2 k2 tb2 rd sn=>?_⟩
   have st:=cQ.t B.t2 k2
   exact hR _ a0 b r xs (mU ps) rn.toNat sp ev le nt mo cs ws ns D _ _ _ _ _ _ G2 (hSG.sameT st) lx (B.keep2 k2 tb2) (by omega) p3 p4 rd sn q
end
def Df (K:Frag) (x:Str) (st:Stmt) (f:Addr):Prop:=nsIn K mainGlobals x=some (some (.ref f))/\∃fd,Fun K x x st f fd
def Dc (K:Frag) (x:Str) (st:Stmt) (f T:Addr):Prop:=nsIn K mainGlobals x=some (some (.ref f))/\∃fd c,vH K x x st f fd c/\codeHdIn K c T=true
def Mf (K:Frag) (C:Addr) (x q:Str) (st:Stmt) (f:Addr):Prop:=dE K C x f/\∃fd,Fun K x q st f fd
def Mc (K:Frag) (C:Addr) (x q:Str) (st:Stmt) (f T:Addr):Prop:=dE K C x f/\∃fd c,vH K x q st f fd c/\codeHdIn K c T=true
def noKit (K:Frag) (cs ds:List Addr):Bool:=cs.all fun c=>ds.all fun d=>kitOne K (.ref c) (.ref d) == some false
section
variable {K:Frag} {C f c T:Addr} {x q:Str} {st:Stmt} {oc:Value} {od an:Option Addr} {osl:Array (Option Value)} {kV doc pm cdv ct:Value} {fd:FuncData}
theorem Df.mk (a:nsIn K mainGlobals x=some (some (.ref f))) (l:K.lookup f=some ⟨oc,od,.func (fnOf x x (dN st) (cS st) (aH st) .none kV doc pm an cdv ct),osl⟩) (h:codeIn K cdv x=true) (k:keepIn K (.ref f)=true):Df K x st f:=⟨a,_,zR l h k⟩
theorem Dc.mk (a:nsIn K mainGlobals x=some (some (.ref f))) (l:K.lookup f=some ⟨oc,od,.func (fnOf x x (dN st) (cS st) (aH st) .none kV doc pm an (.ref c) ct),osl⟩) (h:codeIn K (.ref c) x=true) (k:keepIn K (.ref f)=true) (t:codeHdIn K c T=true):Dc K x st f T:=⟨a,_,c,AbI l h k,t⟩
theorem Mf.mk (a:findIn K (.ref C) x=some (some (.ref f))) (i:isFn K (.ref f)=true) (l:K.lookup f=some ⟨oc,od,.func (fnOf x q (dN st) (cS st) (aH st) .none kV doc pm an cdv ct),osl⟩) (h:codeIn K cdv q=true) (k:keepIn K (.ref f)=true):Mf K C x q st f:=⟨⟨a,i,k⟩,_,zR l h k⟩
theorem Mc.mk (a:findIn K (.ref C) x=some (some (.ref f))) (i:isFn K (.ref f)=true) (l:K.lookup f=some ⟨oc,od,.func (fnOf x q (dN st) (cS st) (aH st) .none kV doc pm an (.ref c) ct),osl⟩) (h:codeIn K (.ref c) q=true) (k:keepIn K (.ref f)=true) (t:codeHdIn K c T=true):Mc K C x q st f T:=⟨⟨a,i,k⟩,_,c,AbI l h k,t⟩
theorem no_of {cs ds:List Addr} (h:noKit K cs ds=true) {c d:Addr} (hc:c ∈ cs) (hd:d ∈ ds):kitOne K (.ref c) (.ref d)=some false:=by
 unfold noKit at h
 rw [List.all_eq_true] at h
 have h:=h c hc
 rw [List.all_eq_true] at h
 exact eq_of_beq (h d hd)
theorem bd1 {x0:Str} (F:Fun K x q st f fd) (h:∀(kV doc pm:Value) (an:Option Addr) (cdv ct:Value) (u0:Value),bindArgs (fnOf x q (dN st) (cS st) (aH st) .none kV doc pm an cdv ct) ⟨[u0],[]⟩=pure ([(x0,u0)])):aO K fd [x0] []:=F.binds fun _ _ _ _ _ _ us hl=>match us,hl with | [u0],_=>h _ _ _ _ _ _ _
theorem bd2 {x0 x1:Str} (F:Fun K x q st f fd) (h:∀(kV doc pm:Value) (an:Option Addr) (cdv ct:Value) (u0 u1:Value),bindArgs (fnOf x q (dN st) (cS st) (aH st) .none kV doc pm an cdv ct) ⟨[u0,u1],[]⟩=pure ([(x0,u0),(x1,u1)])):aO K fd [x0,x1] []:=F.binds fun _ _ _ _ _ _ us hl=>match us,hl with | [u0,u1],_=>h _ _ _ _ _ _ _ _
theorem bd3 {x0 x1 x2:Str} (F:Fun K x q st f fd) (h:∀(kV doc pm:Value) (an:Option Addr) (cdv ct:Value) (u0 u1 u2:Value),bindArgs (fnOf x q (dN st) (cS st) (aH st) .none kV doc pm an cdv ct) ⟨[u0,u1,u2],[]⟩=pure ([(x0,u0),(x1,u1),(x2,u2)])):aO K fd [x0,x1,x2] []:=F.binds fun _ _ _ _ _ _ us hl=>match us,hl with | [u0,u1,u2],_=>h _ _ _ _ _ _ _ _ _
theorem bd4 {x0 x1 x2 x3:Str} (F:Fun K x q st f fd) (h:∀(kV doc pm:Value) (an:Option Addr) (cdv ct:Value) (u0 u1 u2 u3:Value),bindArgs (fnOf x q (dN st) (cS st) (aH st) .none kV doc pm an cdv ct) ⟨[u0,u1,u2,u3],[]⟩=pure ([(x0,u0),(x1,u1),(x2,u2),(x3,u3)])):aO K fd [x0,x1,x2,x3] []:=F.binds fun _ _ _ _ _ _ us hl=>match us,hl with | [u0,u1,u2,u3],_=>h _ _ _ _ _ _ _ _ _ _
theorem bd5 {x0 x1 x2 x3 x4:Str} (F:Fun K x q st f fd) (h:∀(kV doc pm:Value) (an:Option Addr) (cdv ct:Value) (u0 u1 u2 u3 u4:Value),bindArgs (fnOf x q (dN st) (cS st) (aH st) .none kV doc pm an cdv ct) ⟨[u0,u1,u2,u3,u4],[]⟩=pure ([(x0,u0),(x1,u1),(x2,u2),(x3,u3),(x4,u4)])):aO K fd [x0,x1,x2,x3,x4] []:=F.binds fun _ _ _ _ _ _ us hl=>match us,hl with | [u0,u1,u2,u3,u4],_=>h _ _ _ _ _ _ _ _ _ _ _
end
theorem getD_ne {l:List Addr} {i k:Nat} (h:i<l.length) (n:i≠k):l.getD i 0 ∈ l.take k++l.drop (k+1):=by
 rw [List.getD_eq_getElem?_getD,List.getElem?_eq_getElem h]
 refine List.mem_append.mpr ?_
 by_cases z:i<k
 ·exact .inl (List.mem_of_getElem? (i:=i) (by rw [List.getElem?_take,if_pos z,List.getElem?_eq_getElem h];rfl))
 ·refine .inr (List.mem_of_getElem? (i:=i-(k+1)) ?_)
  rw [List.getElem?_drop,show k+1+(i-(k+1))=i by omega,List.getElem?_eq_getElem h]
  rfl
theorem AgI {K:Frag} {C:Addr}:kitOne K (.ref C) (.ref C)=some true:=by
 unfold kitOne
 rw [if_pos (by simp)]
theorem all_mk {l:OpenLaw} {w:World} {K:Frag} {h:Heap} {mg:Str->Option Value} {fa:Addr} {TG TP:Addr} {f1 f2 f3 f4 f5 f6 f7 f8 f9 f10 f11 f12 f13 f14 f15 f16 f17 f18 f19 f20 f21 f22 f23 f24 f25 f26 f27 f28 f29 f30 f31 f32 f33 f34 f35 f36 f37 f38 f39 f40 f41 f42 f43 f44 f45 f46 f47 f48 f49 f50 f51 f52 f53 f54 f55 f56 f57 f58 CLentError CBadBound CBadCut CBadJoin CBadLine CBadMoment CBadPlace CBadPlan CBadTelling CBadWork CBadWorker CDown CFallen CLost CNoBook CNoLending CNoLine CNoPiece CNoText COtherwise CTwice CPARTS CP CS CB:Addr} (nT:TG≠TP) (X:K.In h) (G:h.Ns mainGlobals mg) (hfa:mg "law"=some (.ref fa))
  (gCP:nsIn K mainGlobals "Piece"=some (some (.ref CP)))
  (gCS:nsIn K mainGlobals "Sheet"=some (some (.ref CS)))
  (gCB:nsIn K mainGlobals "Book"=some (some (.ref CB)))
  (nLentError:nsIn K mainGlobals "LentError"=some (some (.ref CLentError)))
  (nBadBound:nsIn K mainGlobals "BadBound"=some (some (.ref CBadBound)))
  (nBadCut:nsIn K mainGlobals "BadCut"=some (some (.ref CBadCut)))
  (nBadJoin:nsIn K mainGlobals "BadJoin"=some (some (.ref CBadJoin)))
  (nBadLine:nsIn K mainGlobals "BadLine"=some (some (.ref CBadLine)))
  (nBadMoment:nsIn K mainGlobals "BadMoment"=some (some (.ref CBadMoment)))
  (nBadPlace:nsIn K mainGlobals "BadPlace"=some (some (.ref CBadPlace)))
  (nBadPlan:nsIn K mainGlobals "BadPlan"=some (some (.ref CBadPlan)))
  (nBadTelling:nsIn K mainGlobals "BadTelling"=some (some (.ref CBadTelling)))
  (nBadWork:nsIn K mainGlobals "BadWork"=some (some (.ref CBadWork)))
  (nBadWorker:nsIn K mainGlobals "BadWorker"=some (some (.ref CBadWorker)))
  (nDown:nsIn K mainGlobals "Down"=some (some (.ref CDown)))
  (nFallen:nsIn K mainGlobals "Fallen"=some (some (.ref CFallen)))
  (nLost:nsIn K mainGlobals "Lost"=some (some (.ref CLost)))
  (nNoBook:nsIn K mainGlobals "NoBook"=some (some (.ref CNoBook)))
  (nNoLending:nsIn K mainGlobals "NoLending"=some (some (.ref CNoLending)))
  (nNoLine:nsIn K mainGlobals "NoLine"=some (some (.ref CNoLine)))
  (nNoPiece:nsIn K mainGlobals "NoPiece"=some (some (.ref CNoPiece)))
  (nNoText:nsIn K mainGlobals "NoText"=some (some (.ref CNoText)))
  (nOtherwise:nsIn K mainGlobals "Otherwise"=some (some (.ref COtherwise)))
  (nTwice:nsIn K mainGlobals "Twice"=some (some (.ref CTwice)))
  (nPARTS:nsIn K mainGlobals "PARTS"=some (some (.ref CPARTS)))
  (h1:Df K "is_whole" qA f1)
  (h2:Df K "is_stretch" lN f2)
  (h3:Df K "is_work" sWork f3)
  (h4:Df K "check_work" yW f4)
  (h5:Df K "merged" uI f5)
  (h6:Df K "short_form" yI f6)
  (h7:Df K "without" pZ f7)
  (h8:Df K "is_numbers" qB f8)
  (h9:Df K "check_bounds" uM f9)
  (h10:Df K "is_worker" uE f10)
  (h11:Df K "check_worker" iH f11)
  (h12:Dc K "greatest" jM f12 TG)
  (h13:Df K "check_line" kQ f13)
  (h14:Df K "do_lent" oU f14)
  (h15:Df K "do_line" jO f15)
  (h16:Df K "_law_well" sWell f16)
  (h17:Df K "_law_draw" sDraw f17)
  (h18:Df K "_law_work" sMake f18)
  (h19:Df K "_law_limits" uJ f19)
  (h20:Df K "_law_word" sWord f20)
  (h21:Df K "_law_done_line" jN f21)
  (h22:Df K "_law_no_line" uH f22)
  (h23:Df K "_law_seen" sSeen f23)
  (h24:Df K "_law_lent" uK f24)
  (h25:Mf K CP "__init__" "Piece.__init__" yP f25)
  (h26:Mf K CP "rest" "Piece.rest" yM f26)
  (h27:Mf K CP "is_done" "Piece.is_done" yR f27)
  (h28:Mf K CP "is_lent" "Piece.is_lent" yN f28)
  (h29:Mf K CP "is_free" "Piece.is_free" yQ f29)
  (h30:Mf K CP "is_late" "Piece.is_late" yO f30)
  (h31:Mf K CP "has_token" "Piece.has_token" sPHas f31)
  (h32:Mf K CP "shown" "Piece.shown" uG f32)
  (h33:Mf K CS "__init__" "Sheet.__init__" yL f33)
  (h34:Mf K CS "lay" "Sheet.lay" sSLay f34)
  (h35:Mf K CS "result_at" "Sheet.result_at" sSRes f35)
  (h36:Mf K CS "all_results" "Sheet.all_results" sSAll f36)
  (h37:Mf K CS "left_work" "Sheet.left_work" yJ f37)
  (h38:Mf K CS "holds_row" "Sheet.holds_row" uF f38)
  (h39:Mf K CS "laid_work" "Sheet.laid_work" yK f39)
  (h40:Mf K CS "numbers_between" "Sheet.numbers_between" mX f40)
  (h41:Mf K CB "__init__" "Book.__init__" mY f41)
  (h42:Mf K CB "choice" "Book.choice" jA f42)
  (h43:Mf K CB "lend" "Book.lend" yT f43)
  (h44:Mf K CB "tell" "Book.tell" yS f44)
  (h45:Mf K CB "cut" "Book.cut" vX f45)
  (h46:Mc K CB "pieces" "Book.pieces" iZ f46 TP)
  (h47:Mf K CB "moment_now" "Book.moment_now" sKNow f47)
  (h48:Mf K CB "all_results" "Book.all_results" sKAll f48)
  (h49:Mf K CB "left_work" "Book.left_work" yU f49)
  (h50:Mf K CB "coming" "Book.coming" qF f50)
  (h51:Mf K CB "check_moment" "Book.check_moment" qE f51)
  (h52:Mf K CB "held_piece" "Book.held_piece" yV f52)
  (h53:Mf K CB "piece_to_tell" "Book.piece_to_tell" qD f53)
  (h54:Mf K CB "piece_to_cut" "Book.piece_to_cut" lO f54)
  (h55:Mf K CB "piece_with" "Book.piece_with" uL f55)
  (h56:Mf K CB "new_piece" "Book.new_piece" AaO f56)
  (h57:Mf K CB "cut_off" "Book.cut_off" lP f57)
  (h58:Df K "law" qC f58)
  (z0:nsIn K mainGlobals "isinstance"=some none)
  (z1:nsIn K mainGlobals "int"=some none)
  (z2:nsIn K mainGlobals "bool"=some none)
  (z3:nsIn K mainGlobals "tuple"=some none)
  (z4:nsIn K mainGlobals "len"=some none)
  (z5:nsIn K mainGlobals "range"=some none)
  (z6:nsIn K mainGlobals "list"=some none)
  (z7:nsIn K mainGlobals "max"=some none)
  (z8:nsIn K mainGlobals "sum"=some none)
  (z9:nsIn K mainGlobals "sorted"=some none)
  (z10:nsIn K mainGlobals "any"=some none)
  (z11:nsIn K mainGlobals "all"=some none)
  (z12:nsIn K mainGlobals "enumerate"=some none)
  (z13:nsIn K mainGlobals "min"=some none)
  (z14:nsIn K mainGlobals "str"=some none)
  (z15:nsIn K mainGlobals "zip"=some none)
  (z16:nsIn K mainGlobals "ValueError"=some none)
  (kCP:Cls K CP/\makesIn K CP=true/\keepIn K (.ref CP)=true/\NoAttr K CP "number"/\NoAttr K CP "low"/\NoAttr K CP "high"/\NoAttr K CP "mark"/\NoAttr K CP "lending")
  (kCS:Cls K CS/\makesIn K CS=true/\keepIn K (.ref CS)=true/\NoAttr K CS "work"/\NoAttr K CS "results")
  (kCB:Cls K CB/\makesIn K CB=true/\keepIn K (.ref CB)=true/\NoAttr K CB "work"/\NoAttr K CB "span"/\NoAttr K CB "every"/\NoAttr K CB "least"/\NoAttr K CB "sheet"/\NoAttr K CB "by_number"/\NoAttr K CB "next_number"/\NoAttr K CB "next_token"/\NoAttr K CB "moment")
  (eBadLine:vI K CBadLine)
  (xTwice:ExcIs K CTwice)
  (hitBadLineLentError:exmOne K (.ref CBadLine) (.ref CLentError)=some true)
  (no0:noKit K [CBadLine] [CBadBound,CBadCut,CBadJoin,CBadMoment,CBadPlace,CBadPlan,CBadTelling,CBadWork,CBadWorker,CDown,CFallen,CLost,CNoBook,CNoLending,CNoLine,CNoPiece,CNoText,COtherwise,CTwice]=true)
  (kve:kitOne K (.ref CBadLine) (.type "ValueError")=some true)
  (te:PyProof.Rows.KTD.tabLook PyProof.Rows.KTD.flatLooks (fun b=>K.lookup b) CPARTS (gJ.map fun p=>(p.1,PyData.int p.2))=true)
  (tq:PyProof.Rows.KTD.hashesOf (fun b=>K.lookup b) CPARTS=(gJ.map fun p=>(p.1,PyData.int p.2)).map fun p=>(PySem.strKind l.prog w).hash p.1):
  ∃fd:FuncData,(∀(s:Shared) (v:Value),BindsTo s fd ⟨[v],[]⟩ [("_law_script",v)])/\∀base:Heap,K.In base->base.Ns mainGlobals mg->vJ base mg->aJ l.prog w K mg base CX0 11 fa fd ["_law_script"] (AaH K TG TP):=by
 have e:=hfa.symm.trans (mg_of X G h58.1)
 cases e
 have B:Gb mg:=⟨mg_none_of X G z0,mg_none_of X G z1,mg_none_of X G z2,mg_none_of X G z3,mg_none_of X G z4,mg_none_of X G z5,mg_none_of X G z6,mg_none_of X G z7,mg_none_of X G z8,mg_none_of X G z9,mg_none_of X G z10,mg_none_of X G z11,mg_none_of X G z12,mg_none_of X G z13⟩
 obtain⟨M1,_,F1⟩:=h1
 have M1:=mg_of X G M1
 have k1:=F1.kp
 have b1:=bd1 (x0:="thing") F1 fun _ _ _ _ _ _ _=>rfl
 obtain⟨M2,_,F2⟩:=h2
 have M2:=mg_of X G M2
 have k2:=F2.kp
 have b2:=bd1 (x0:="thing") F2 fun _ _ _ _ _ _ _=>rfl
 obtain⟨M3,_,F3⟩:=h3
 have M3:=mg_of X G M3
 have k3:=F3.kp
 have b3:=bd1 (x0:="thing") F3 fun _ _ _ _ _ _ _=>rfl
 obtain⟨M4,_,F4⟩:=h4
 have M4:=mg_of X G M4
 have k4:=F4.kp
 have b4:=bd1 (x0:="work") F4 fun _ _ _ _ _ _ _=>rfl
 obtain⟨M5,_,F5⟩:=h5
 have M5:=mg_of X G M5
 have k5:=F5.kp
 have b5:=bd1 (x0:="stretches") F5 fun _ _ _ _ _ _ _=>rfl
 obtain⟨M6,_,F6⟩:=h6
 have M6:=mg_of X G M6
 have k6:=F6.kp
 have b6:=bd1 (x0:="work") F6 fun _ _ _ _ _ _ _=>rfl
 obtain⟨M7,_,F7⟩:=h7
 have M7:=mg_of X G M7
 have k7:=F7.kp
 have b7:=bd2 (x0:="one") (x1:="other") F7 fun _ _ _ _ _ _ _ _=>rfl
 obtain⟨M8,_,F8⟩:=h8
 have M8:=mg_of X G M8
 have k8:=F8.kp
 have b8:=bd1 (x0:="thing") F8 fun _ _ _ _ _ _ _=>rfl
 obtain⟨M9,_,F9⟩:=h9
 have M9:=mg_of X G M9
 have k9:=F9.kp
 have b9:=bd3 (x0:="span") (x1:="every") (x2:="least") F9 fun _ _ _ _ _ _ _ _ _=>rfl
 obtain⟨M10,_,F10⟩:=h10
 have M10:=mg_of X G M10
 have k10:=F10.kp
 have b10:=bd1 (x0:="thing") F10 fun _ _ _ _ _ _ _=>rfl
 obtain⟨M11,_,F11⟩:=h11
 have M11:=mg_of X G M11
 have k11:=F11.kp
 have b11:=bd1 (x0:="worker") F11 fun _ _ _ _ _ _ _=>rfl
 obtain⟨M12,_,_,F12,t12⟩:=h12
 have M12:=mg_of X G M12
 have k12:=F12.kp
 have b12:=bd1 (x0:="pieces") F12.toFun fun _ _ _ _ _ _ _=>rfl
 obtain⟨M13,_,F13⟩:=h13
 have M13:=mg_of X G M13
 have k13:=F13.kp
 have b13:=bd1 (x0:="line") F13 fun _ _ _ _ _ _ _=>rfl
 obtain⟨M14,_,F14⟩:=h14
 have M14:=mg_of X G M14
 have k14:=F14.kp
 have b14:=bd2 (x0:="book") (x1:="line") F14 fun _ _ _ _ _ _ _ _=>rfl
 obtain⟨M15,_,F15⟩:=h15
 have M15:=mg_of X G M15
 have k15:=F15.kp
 have b15:=bd2 (x0:="book") (x1:="line") F15 fun _ _ _ _ _ _ _ _=>rfl
 obtain⟨M16,_,F16⟩:=h16
 have M16:=mg_of X G M16
 have k16:=F16.kp
 have b16:=bd2 (x0:="_law_script") (x1:="_law_k") F16 fun _ _ _ _ _ _ _ _=>rfl
 obtain⟨M17,_,F17⟩:=h17
 have M17:=mg_of X G M17
 have k17:=F17.kp
 have b17:=bd2 (x0:="_law_well_here") (x1:="_law_most") F17 fun _ _ _ _ _ _ _ _=>rfl
 obtain⟨M18,_,F18⟩:=h18
 have M18:=mg_of X G M18
 have k18:=F18.kp
 have b18:=bd1 (x0:="_law_well_here") F18 fun _ _ _ _ _ _ _=>rfl
 obtain⟨M19,_,F19⟩:=h19
 have M19:=mg_of X G M19
 have k19:=F19.kp
 have b19:=bd1 (x0:="_law_well_here") F19 fun _ _ _ _ _ _ _=>rfl
 obtain⟨M20,_,F20⟩:=h20
 have M20:=mg_of X G M20
 have k20:=F20.kp
 have b20:=bd1 (x0:="_law_e") F20 fun _ _ _ _ _ _ _=>rfl
 obtain⟨M21,_,F21⟩:=h21
 have M21:=mg_of X G M21
 have k21:=F21.kp
 have b21:=bd2 (x0:="_law_book") (x1:="_law_line") F21 fun _ _ _ _ _ _ _ _=>rfl
 obtain⟨M22,_,F22⟩:=h22
 have M22:=mg_of X G M22
 have k22:=F22.kp
 have b22:=bd2 (x0:="_law_well_here") (x1:="_law_moment") F22 fun _ _ _ _ _ _ _ _=>rfl
 obtain⟨M23,_,F23⟩:=h23
 have M23:=mg_of X G M23
 have k23:=F23.kp
 have b23:=bd1 (x0:="_law_book") F23 fun _ _ _ _ _ _ _=>rfl
 obtain⟨M24,_,F24⟩:=h24
 have M24:=mg_of X G M24
 have k24:=F24.kp
 have b24:=bd3 (x0:="_law_book") (x1:="_law_moment") (x2:="_law_token") F24 fun _ _ _ _ _ _ _ _ _=>rfl
 obtain⟨M25,_,F25⟩:=h25
 have k25:=F25.kp
 have b25:=bd4 (x0:="self") (x1:="number") (x2:="low") (x3:="high") F25 fun _ _ _ _ _ _ _ _ _ _=>rfl
 obtain⟨M26,_,F26⟩:=h26
 have k26:=F26.kp
 have b26:=bd1 (x0:="self") F26 fun _ _ _ _ _ _ _=>rfl
 obtain⟨M27,_,F27⟩:=h27
 have k27:=F27.kp
 have b27:=bd1 (x0:="self") F27 fun _ _ _ _ _ _ _=>rfl
 obtain⟨M28,_,F28⟩:=h28
 have k28:=F28.kp
 have b28:=bd1 (x0:="self") F28 fun _ _ _ _ _ _ _=>rfl
 obtain⟨M29,_,F29⟩:=h29
 have k29:=F29.kp
 have b29:=bd1 (x0:="self") F29 fun _ _ _ _ _ _ _=>rfl
 obtain⟨M30,_,F30⟩:=h30
 have k30:=F30.kp
 have b30:=bd2 (x0:="self") (x1:="moment") F30 fun _ _ _ _ _ _ _ _=>rfl
 obtain⟨M31,_,F31⟩:=h31
 have k31:=F31.kp
 have b31:=bd2 (x0:="self") (x1:="token") F31 fun _ _ _ _ _ _ _ _=>rfl
 obtain⟨M32,_,F32⟩:=h32
 have k32:=F32.kp
 have b32:=bd1 (x0:="self") F32 fun _ _ _ _ _ _ _=>rfl
 obtain⟨M33,_,F33⟩:=h33
 have k33:=F33.kp
 have b33:=bd2 (x0:="self") (x1:="work") F33 fun _ _ _ _ _ _ _ _=>rfl
 obtain⟨M34,_,F34⟩:=h34
 have k34:=F34.kp
 have b34:=bd3 (x0:="self") (x1:="place") (x2:="numbers") F34 fun _ _ _ _ _ _ _ _ _=>rfl
 obtain⟨M35,_,F35⟩:=h35
 have k35:=F35.kp
 have b35:=bd2 (x0:="self") (x1:="place") F35 fun _ _ _ _ _ _ _ _=>rfl
 obtain⟨M36,_,F36⟩:=h36
 have k36:=F36.kp
 have b36:=bd1 (x0:="self") F36 fun _ _ _ _ _ _ _=>rfl
 obtain⟨M37,_,F37⟩:=h37
 have k37:=F37.kp
 have b37:=bd1 (x0:="self") F37 fun _ _ _ _ _ _ _=>rfl
 obtain⟨M38,_,F38⟩:=h38
 have k38:=F38.kp
 have b38:=bd3 (x0:="self") (x1:="first") (x2:="behind") F38 fun _ _ _ _ _ _ _ _ _=>rfl
 obtain⟨M39,_,F39⟩:=h39
 have k39:=F39.kp
 have b39:=bd1 (x0:="self") F39 fun _ _ _ _ _ _ _=>rfl
 obtain⟨M40,_,F40⟩:=h40
 have k40:=F40.kp
 have b40:=bd3 (x0:="self") (x1:="low") (x2:="high") F40 fun _ _ _ _ _ _ _ _ _=>rfl
 obtain⟨M41,_,F41⟩:=h41
 have k41:=F41.kp
 have b41:=bd5 (x0:="self") (x1:="work") (x2:="span") (x3:="every") (x4:="least") F41 fun _ _ _ _ _ _ _ _ _ _ _=>rfl
 obtain⟨M42,_,F42⟩:=h42
 have k42:=F42.kp
 have b42:=bd2 (x0:="self") (x1:="moment") F42 fun _ _ _ _ _ _ _ _=>rfl
 obtain⟨M43,_,F43⟩:=h43
 have k43:=F43.kp
 have b43:=bd3 (x0:="self") (x1:="worker") (x2:="moment") F43 fun _ _ _ _ _ _ _ _ _=>rfl
 obtain⟨M44,_,F44⟩:=h44
 have k44:=F44.kp
 have b44:=bd5 (x0:="self") (x1:="token") (x2:="place") (x3:="numbers") (x4:="moment") F44 fun _ _ _ _ _ _ _ _ _ _ _=>rfl
 obtain⟨M45,_,F45⟩:=h45
 have k45:=F45.kp
 have b45:=bd3 (x0:="self") (x1:="number") (x2:="place") F45 fun _ _ _ _ _ _ _ _ _=>rfl
 obtain⟨M46,_,_,F46,t46⟩:=h46
 have k46:=F46.kp
 have b46:=bd1 (x0:="self") F46.toFun fun _ _ _ _ _ _ _=>rfl
 obtain⟨M47,_,F47⟩:=h47
 have k47:=F47.kp
 have b47:=bd1 (x0:="self") F47 fun _ _ _ _ _ _ _=>rfl
 obtain⟨M48,_,F48⟩:=h48
 have k48:=F48.kp
 have b48:=bd1 (x0:="self") F48 fun _ _ _ _ _ _ _=>rfl
 obtain⟨M49,_,F49⟩:=h49
 have k49:=F49.kp
 have b49:=bd1 (x0:="self") F49 fun _ _ _ _ _ _ _=>rfl
 obtain⟨M50,_,F50⟩:=h50
 have k50:=F50.kp
 have b50:=bd2 (x0:="self") (x1:="moment") F50 fun _ _ _ _ _ _ _ _=>rfl
 obtain⟨M51,_,F51⟩:=h51
 have k51:=F51.kp
 have b51:=bd2 (x0:="self") (x1:="moment") F51 fun _ _ _ _ _ _ _ _=>rfl
 obtain⟨M52,_,F52⟩:=h52
 have k52:=F52.kp
 have b52:=bd3 (x0:="self") (x1:="token") (x2:="moment") F52 fun _ _ _ _ _ _ _ _ _=>rfl
 obtain⟨M53,_,F53⟩:=h53
 have k53:=F53.kp
 have b53:=bd5 (x0:="self") (x1:="token") (x2:="place") (x3:="numbers") (x4:="moment") F53 fun _ _ _ _ _ _ _ _ _ _ _=>rfl
 obtain⟨M54,_,F54⟩:=h54
 have k54:=F54.kp
 have b54:=bd3 (x0:="self") (x1:="number") (x2:="place") F54 fun _ _ _ _ _ _ _ _ _=>rfl
 obtain⟨M55,_,F55⟩:=h55
 have k55:=F55.kp
 have b55:=bd2 (x0:="self") (x1:="number") F55 fun _ _ _ _ _ _ _ _=>rfl
 obtain⟨M56,_,F56⟩:=h56
 have k56:=F56.kp
 have b56:=bd3 (x0:="self") (x1:="low") (x2:="high") F56 fun _ _ _ _ _ _ _ _ _=>rfl
 obtain⟨M57,_,F57⟩:=h57
 have k57:=F57.kp
 have b57:=bd3 (x0:="self") (x1:="piece") (x2:="place") F57 fun _ _ _ _ _ _ _ _ _=>rfl
 obtain⟨_,_,F58⟩:=h58
 obtain⟨oc,od,kV,doc,pm,an,cdv,ct,osl,rfl,lk,hcd⟩:=F58.ex
 have F58:=zR lk hcd F58.kp
 refine⟨fnOf "law" "law" (dN qC) (cS qC) (aH qC) .none kV doc pm an cdv ct,fun s v=>.of_eq rfl,fun base _ _ hB=>?_⟩
 obtain⟨cCP,mCP,kCP,nCP_number,nCP_low,nCP_high,nCP_mark,nCP_lending⟩:=kCP
 obtain⟨cCS,mCS,kCS,nCS_work,nCS_results⟩:=kCS
 obtain⟨cCB,mCB,kCB,nCB_work,nCB_span,nCB_every,nCB_least,nCB_sheet,nCB_by_number,nCB_next_number,nCB_next_token,nCB_moment⟩:=kCB
 have TPc:Pl K mg CP:=⟨cCP,nCP_number,nCP_low,nCP_high,nCP_mark,nCP_lending,mg_of X G gCP⟩
 have TS:Cl K mg CS:=⟨cCS,nCS_work,nCS_results,mg_of X G gCS⟩
 have TB:Bl K mg CB:=⟨cCB,nCB_work,nCB_span,nCB_every,nCB_least,nCB_sheet,nCB_by_number,nCB_next_number,nCB_next_token,nCB_moment,mg_of X G gCB⟩
 have TW:Tw K mg CTwice:=⟨mg_of X G nTwice,xTwice⟩
 have LB:Lb K mg CBadLine:=⟨mg_of X G nBadLine,eBadLine.exc⟩
 have WN:Wn mg (fun i=>([CBadBound,CBadCut,CBadJoin,CBadLine,CBadMoment,CBadPlace,CBadPlan,CBadTelling,CBadWork,CBadWorker,CDown,CFallen,CLost,CNoBook,CNoLending,CNoLine,CNoPiece,CNoText,COtherwise,CTwice]:List Addr).getD i 0):=⟨mg_of X G nBadBound,mg_of X G nBadCut,mg_of X G nBadJoin,mg_of X G nBadLine,mg_of X G nBadMoment,mg_of X G nBadPlace,mg_of X G nBadPlan,mg_of X G nBadTelling,mg_of X G nBadWork,mg_of X G nBadWorker,mg_of X G nDown,mg_of X G nFallen,mg_of X G nLost,mg_of X G nNoBook,mg_of X G nNoLending,mg_of X G nNoLine,mg_of X G nNoPiece,mg_of X G nNoText,mg_of X G nOtherwise,mg_of X G nTwice,mg_none_of X G z15,mg_none_of X G z16⟩
 have WC:Wc K (fun i=>([CBadBound,CBadCut,CBadJoin,CBadLine,CBadMoment,CBadPlace,CBadPlan,CBadTelling,CBadWork,CBadWorker,CDown,CFallen,CLost,CNoBook,CNoLending,CNoLine,CNoPiece,CNoText,COtherwise,CTwice]:List Addr).getD i 0) CBadLine 3:=⟨eBadLine,fun i hi=>by
  by_cases z:i=3
  ·subst z
   exact AgI
  ·rw [decide_eq_false z]
   exact no_of (ds:=([CBadBound,CBadCut,CBadJoin,CBadLine,CBadMoment,CBadPlace,CBadPlan,CBadTelling,CBadWork,CBadWorker,CDown,CFallen,CLost,CNoBook,CNoLending,CNoLine,CNoPiece,CNoText,COtherwise,CTwice]:List Addr).take 3++([CBadBound,CBadCut,CBadJoin,CBadLine,CBadMoment,CBadPlace,CBadPlan,CBadTelling,CBadWork,CBadWorker,CDown,CFallen,CLost,CNoBook,CNoLending,CNoLine,CNoPiece,CNoText,COtherwise,CTwice]:List Addr).drop 4) no0 (by simp) (getD_ne hi z),kve⟩
 have T:TabK l.prog w K CPARTS gJ:=tabK_of te (by decide) tq
 have G1:aJ l.prog w K mg base CX0 1 f1 _ ["thing"] dS:=wK F1 B
 have G3:aJ l.prog w K mg base CX0 3 f3 _ ["thing"] xT:=ok_work F3 B F1 b1 M1 F2 b2 M2
 have G4:aJ l.prog w K mg base CX0 4 f4 _ ["work"] oR:=AfW F4 G3 k3 b3 M3
 have G5:aJ l.prog w K mg base CX0 1 f5 _ ["stretches"] (pO K):=AcO F5 B
 have G6:aJ l.prog w K mg base CX0 5 f6 _ ["work"] oO:=AfJ F6 G4 k4 b4 M4 (G5.mono (by decide)) k5 b5 M5
 have G7:aJ l.prog w K mg base CX0 6 f7 _ ["one","other"] yC:=diff_of (zC F7 B G6 k6 b6 M6)
 have G8:aJ l.prog w K mg base CX0 2 f8 _ ["thing"] tQ:=zE F8 B G1 k1 b1 M1
 have G33:aJ l.prog w K mg base CX0 6 f33 _ ["self","work"] (xY CS):=ok_init F33 TS (st_of G6) k6 b6 M6
 have G38:aJ l.prog w K mg base CX0 1 f38 _ ["self","first","behind"] (tX CS):=AfU F38 B TS
 have G39:aJ l.prog w K mg base CX0 6 f39 _ ["self"] (tU CS):=ok_laid F39 B TS (st_of G6) k6 b6 M6
 have G37:aJ l.prog w K mg base CX0 7 f37 _ ["self"] (pP CS):=ok_left F37 TS G7 k7 b7 M7 G39 b39 M39
 have G36:aJ l.prog w K mg base CX0 7 f36 _ ["self"] (vP (fun _=>7) CS):=ok_all (fun _=>7) F36 B TS G39 b39 M39 (zH (fun _=>7) F40 B TS) b40 M40
 have G34:aJ l.prog w K mg base (CXE l.prog w) 3 f34 _ ["self","place","numbers"] (spLay CS CTwice):=ok_lay F34 B TS TW G1 k1 b1 M1 G8 k8 b8 M8 G38 b38 M38
 have G35:aJ l.prog w K mg base CX0 2 f35 _ ["self","place"] (spRes CS):=ok_res F35 TS G1 k1 b1 M1
 have G25:aJ l.prog w K mg base CX0 1 f25 _ ["self","number","low","high"] (tP CP):=AfK F25 TPc
 have G26:aJ l.prog w K mg base CX0 1 f26 _ ["self"] (pN CP):=ok_rest F26 TPc
 have G27:aJ l.prog w K mg base CX0 1 f27 _ ["self"] (tZ CP):=ok_done F27 TPc
 have G28:aJ l.prog w K mg base CX0 1 f28 _ ["self"] (kJ CP):=ok_lent F28 TPc
 have G29:aJ l.prog w K mg base CX0 2 f29 _ ["self"] (yB CP):=ok_free F29 TPc G28 b28 M28 G27 b27 M27
 have G30:aJ l.prog w K mg base CX0 2 f30 _ ["self","moment"] (xX CP):=ok_late F30 TPc G28 b28 M28
 have G31:aJ l.prog w K mg base CX0 2 f31 _ ["self","token"] (yA CP):=ok_hasT F31 TPc G28 b28 M28
 have G32:aJ l.prog w K mg base CX0 1 f32 _ ["self"] (tN CP):=AfI F32 TPc
 have G12:aJ l.prog w K mg base CX0 4 f12 _ ["pieces"] (tY CP TG):=wM F12 t12 hB (mg_none_of X G z13) TPc G26 b26 M26
 have G9:aJ l.prog w K mg base CX0 2 f9 _ ["span","every","least"] kO:=wO F9 G1 k1 b1 M1
 have G56:aJ l.prog w K mg base CX0 3 f56 _ ["self","low","high"] (AaG CB CP):=ok_new F56 TB TPc G25 b25 ⟨mCP,M25.1,M25.2,kCP⟩
 have G41:aJ l.prog w K mg base CX0 8 f41 _ ["self","work","span","every","least"] (tW CB CS CP):=AfT F41 TB TS G4 k4 b4 M4 G9 k9 b9 M9 G33 b33 ⟨mCS,M33.1,M33.2,kCS⟩ G56 b56 M56
 have G46:aJ l.prog w K mg base CX0 4 f46 _ ["self"] (lE CB CP TP):=AcM F46 t46 hB (mg_none_of X G z9) TB TPc G32 b32 M32
 have G47:aJ l.prog w K mg base CX0 1 f47 _ ["self"] (vO CB):=ok_now F47 TB
 have G48:aJ l.prog w K mg base CX0 8 f48 _ ["self"] (sJ CB CS fun vs H Q _=>vP (fun _=>7) CS vs H Q E0):=ok_kall (sp':=vP (fun _=>7) CS) F48 TB TS G36 b36 M36
 have G49:aJ l.prog w K mg base CX0 8 f49 _ ["self"] (sJ CB CS fun vs H Q _=>pP CS vs H Q E0):=AfS (sp':=pP CS) F49 TB TS G37 b37 M37
 have G51:aJ l.prog w K mg base CX0 2 f51 _ ["self","moment"] (oP CB):=AfL F51 TB G1 k1 b1 M1
 have G42:aJ l.prog w K mg base CX0 5 f42 _ ["self","moment"] (iW CB CP TG):=AcR F42 TB TPc G51 b51 M51 G29 b29 M29 G28 b28 M28 G30 b30 M30 G26 b26 M26 G12 k12 b12 M12
 have G50:aJ l.prog w K mg base CX0 6 f50 _ ["self","moment"] (mQ CB CP TG):=zG F50 TB G42 b42 M42
 have G10:aJ l.prog w K mg base CX0 1 f10 _ ["thing"] kH:=wJ F10 B (mg_none_of X G z14)
 have G11:aJ l.prog w K mg base CX0 2 f11 _ ["worker"] iF:=wN F11 G10 k10 b10 M10
 have G55:aJ l.prog w K mg base CX0 2 f55 _ ["self","number"] (tK CB CP):=ok_with F55 TB G1 k1 b1 M1
 have G43:aJ l.prog w K mg base CX0 6 f43 _ ["self","worker","moment"] (tT CB CP TG):=AfR F43 TB TPc (G11.mono (by decide)) k11 b11 M11 G42 b42 M42 (G55.mono (by decide)) b55 M55
 have G52:aJ l.prog w K mg base CX0 3 f52 _ ["self","token","moment"] (xZ CB CP):=ok_held F52 TB TPc G51 b51 M51 (G1.mono (by decide)) k1 b1 M1 G31 b31 M31
 have G53:aJ l.prog w K mg base CX0 4 f53 _ ["self","token","place","numbers","moment"] (pL CB CS CP):=AcL F53 B TB TS TPc G52 b52 M52 (G1.mono (by decide)) k1 b1 M1 (G8.mono (by decide)) k8 b8 M8 (G35.mono (by decide)) b35 M35
 have G44:aJ l.prog w K mg base CX0 5 f44 _ ["self","token","place","numbers","moment"] (pM CB CS CP):=ok_tell F44 B TB TS TPc G53 b53 M53 (G34.mono (by decide)) b34 M34 (G27.mono (by decide)) b27 M27
 have G54:aJ l.prog w K mg base CX0 3 f54 _ ["self","number","place"] (tM CB CP):=AfH F54 TB TPc G55 b55 M55 G1 k1 b1 M1 G28 b28 M28
 have G57:aJ l.prog w K mg base CX0 4 f57 _ ["self","piece","place"] (pQ CB CP):=AcQ F57 TB TPc G56 b56 M56
 have G45:aJ l.prog w K mg base CX0 5 f45 _ ["self","number","place"] (oQ CB CP):=ok_cut F45 TB G54 b54 M54 G57 b57 M57
 have G13:aJ l.prog w K mg base (CXE l.prog w) 1 f13 _ ["line"] (hU CBadLine):=AcS F13 B (mg_none_of X G z14) T (mg_of X G nPARTS) LB
 have G14:aJ l.prog w K mg base CX0 7 f14 _ ["book","line"] (fU CB CP TG):=AcP F14 TB G11 k11 b11 M11 G50 b50 M50 G1 k1 b1 M1 G43 b43 M43
 have N15:aJ l.prog w K mg base (CXE l.prog w) 2 f15 _ ["book","line"] (tS CBadLine):=AfP F15 G13 k13 b13 M13
 have P15:aJ l.prog w K mg base CX0 8 f15 _ ["book","line"] (fU CB CP TG):=AfO F15 G13 k13 b13 M13 G14 k14 b14 M14
 have Q15:aJ l.prog w K mg base CX0 8 f15 _ ["book","line"] (lG CB CS CP):=AfN F15 TB G13 k13 b13 M13 G44 b44 M44
 have R15:aJ l.prog w K mg base CX0 8 f15 _ ["book","line"] (jK CB CP):=AfQ F15 TB G13 k13 b13 M13 G45 b45 M45
 have G16:aJ l.prog w K mg base CX0 1 f16 _ ["_law_script","_law_k"] (tL K):=ok_well F16 B
 have G17:aJ l.prog w K mg base CX0 1 f17 _ ["_law_well_here","_law_most"] mJ:=ok_draw F17
 have G19:aJ l.prog w K mg base CX0 2 f19 _ ["_law_well_here"] xW:=ok_lims F19 G17 k17 b17 M17
 have G18:aJ l.prog w K mg base CX0 2 f18 _ ["_law_well_here"] xV:=ok_make F18 B G17 k17 b17 M17
 have G20:rO l.prog w K mg base 1 f20 _ ["_law_e"] (xU K (fun i=>([CBadBound,CBadCut,CBadJoin,CBadLine,CBadMoment,CBadPlace,CBadPlan,CBadTelling,CBadWork,CBadWorker,CDown,CFallen,CLost,CNoBook,CNoLending,CNoLine,CNoPiece,CNoText,COtherwise,CTwice]:List Addr).getD i 0)):=ok_word F20 B WN
 have N21:aJ l.prog w K mg base CX0 9 f21 _ ["_law_book","_law_line"] jL:=zF F21 (mg_of X G nLentError) hitBadLineLentError WC N15 k15 b15 M15 G20 k20 b20 M20
 have P21:aJ l.prog w K mg base CX0 9 f21 _ ["_law_book","_law_line"] (fQ (fU CB CP TG)):=nG F21 (mg_of X G nLentError) AcY P15 k15 b15 M15
 have Q21:aJ l.prog w K mg base CX0 9 f21 _ ["_law_book","_law_line"] (fQ (lG CB CS CP)):=nG F21 (mg_of X G nLentError) AcW Q15 k15 b15 M15
 have R21:aJ l.prog w K mg base CX0 9 f21 _ ["_law_book","_law_line"] (fQ (jK CB CP)):=nG F21 (mg_of X G nLentError) AgA R15 k15 b15 M15
 have G22:aJ l.prog w K mg base CX0 2 f22 _ ["_law_well_here","_law_moment"] lF:=AcN F22 B G17 k17 b17 M17
 have G23:aJ l.prog w K mg base CX0 9 f23 _ ["_law_book"] (tO K CB CS CP TP):=ok_seen F23 TB (G46.mono (by decide)) b46 M46 G48 b48 M48 G49 b49 M49 (G47.mono (by decide)) b47 M47
 have G24:aJ l.prog w K mg base CX0 10 f24 _ ["_law_book","_law_moment","_law_token"] (tV CB CS CP TG TP):=AfM F24 B TB G42 b42 M42 G46 b46 M46 P21 Q21 k21 b21 M21
 exact ok_law F58 B TB nT G16 k16 b16 M16 G18 k18 b18 M18 G19 k19 b19 M19 (G41.mono (by decide)) b41 ⟨mCB,M41.1,M41.2,kCB⟩ G17 k17 b17 M17 G24 k24 b24 M24 G47 b47 M47 G22 k22 b22 M22 N21 R21 k21 b21 M21 G23 k23 b23 M23
theorem tabsOk {h:Heap} {TG cTG:Addr} {TP cTP:Addr} (aTG:h.get? TG=some (tabObj #[])) (bTG:CodeHd h cTG TG) (aTP:h.get? TP=some (tabObj #[])) (bTP:CodeHd h cTP TP):∀p ∈ [TG,TP],h.get? p=some (tabObj #[])/\isCodeTable h p:=aQ ⟨aTG,(bTG.tab aTG).isCodeTable⟩ (aQ ⟨aTP,(bTP.tab aTP).isCodeTable⟩ cF)
theorem walk {l:OpenLaw} {q:Program} {loose:List Str} {XP:(Str->Option Value)->Heap->Prop} {YP:World->Heap->Prop} {d:DefRec} {K:Params->Frag} {TG TP:Addr} (hn:l.most=some 63) (hdf:d.params.defaults=[])
  (hY:∀(w:World) (h:Heap),YP w h->(K w.params).In h/\noTabs (K w.params)=true/\∀p ∈ [TG,TP],h.get? p=some (tabObj #[])/\isCodeTable h p)
  (F:∀(w:World) (mg:Str->Option Value) (fa:Addr) (h:Heap),(K w.params).In h->h.Ns mainGlobals mg->mg d.name=some (.ref fa) ->
   ∃fd:FuncData,(∀(s:Shared) (u:Value),BindsTo s fd ⟨[u],[]⟩ [("_law_script",u)])/\∀base:Heap,(K w.params).In base->base.Ns mainGlobals mg->vJ base mg->aJ l.prog w (K w.params) mg base CX0 11 fa fd ["_law_script"] (AaH (K w.params) TG TP)):
  WalkO q loose XP YP l.row.toRowW d [] (fun f vs=>PySem.call f vs):=
 L2.walk_ofT (ts:=[TG,TP]) (n:=63) (k:=11) (x:="_law_script") (CX:=fun _=>CX0) (sp:=fun w=>AaH (K w.params) TG TP) hn (by decide) hdf ⟨rfl,by decide,by decide⟩ hY F (fun _ _ a ns hl _ hT hS=>⟨a,ns,rfl,hS,hl,hT _ (by simp),hT _ (by simp),fun _=>rfl⟩) fun _ _ _ _ _ z=>z
end Ls
namespace PySem.W.Fast
theorem tw4789725599340242884:True:=⟨⟩
theorem tw7719863061129300742:True:=⟨⟩
theorem tw3538013217352944275:True:=⟨⟩
theorem tw11914595324580788639:True:=⟨⟩
theorem tw14964989437035955374:True:=⟨⟩
theorem tw1953205267114287388:True:=⟨⟩
theorem tw17685941720958665812:True:=⟨⟩
theorem tw3215793187059848438:True:=⟨⟩
theorem tw4959899616127657163:True:=⟨⟩
theorem tw6834001568081342486:True:=⟨⟩
theorem tw6283798237786152140:True:=⟨⟩
theorem tw13114951579144091754:True:=⟨⟩
theorem tw13637710629943811525:True:=⟨⟩
theorem tw1800112229019408987:True:=⟨⟩
theorem tw16698095728187422199:True:=⟨⟩
theorem tw7023332126785220474:True:=⟨⟩
theorem tw7367719473209826680:True:=⟨⟩
theorem tw17380942327288902178:True:=⟨⟩
theorem tw17431651880474790814:True:=⟨⟩
theorem tw12244943226530708658:True:=⟨⟩
theorem tw7422989796156486237:True:=⟨⟩
theorem tw16722217335025591899:True:=⟨⟩
theorem tw7002397079198128720:True:=⟨⟩
theorem tw13293430994944936388:True:=⟨⟩
theorem tw16501531830941301875:True:=⟨⟩
theorem tw9565284626393150953:True:=⟨⟩
theorem tw5316275104839389136:True:=⟨⟩
theorem tw12378922454306790296:True:=⟨⟩
theorem tw15720645689910648661:True:=⟨⟩
theorem tw10289610545286245580:True:=⟨⟩
theorem tw16906372921118424870:True:=⟨⟩
theorem tw12865379596304481138:True:=⟨⟩
theorem tw6085874602593710983:True:=⟨⟩
theorem tw14185992592789529747:True:=⟨⟩
theorem tw13910127655886490079:True:=⟨⟩
theorem tw11960600308485997194:True:=⟨⟩
theorem tw12551933648632377777:True:=⟨⟩
theorem tw14987140198039127658:True:=⟨⟩
theorem tw16130468264565393519:True:=⟨⟩
theorem tw1049501463552687014:True:=⟨⟩
theorem tw14365230551282444409:True:=⟨⟩
theorem tw4777674008103460959:True:=⟨⟩
theorem tw17858479347268654468:True:=⟨⟩
theorem tw6010780677358698778:True:=⟨⟩
theorem tw5686559828733745460:True:=⟨⟩
theorem tw12804464562083111488:True:=⟨⟩
theorem tw8333190736517567448:True:=⟨⟩
theorem tw8980319054647621723:True:=⟨⟩
theorem tw10449830246247781902:True:=⟨⟩
theorem tw14720405183291391354:True:=⟨⟩
theorem tw6945762970027280121:True:=⟨⟩
theorem tw16215210563155825670:True:=⟨⟩
theorem tw11035187360541686568:True:=⟨⟩
theorem tw2117615996672664949:True:=⟨⟩
theorem tw13995419490993001616:True:=⟨⟩
theorem tw6374452531444757259:True:=⟨⟩
theorem tw5530443741761067633:True:=⟨⟩
theorem tw12209374483858798210:True:=⟨⟩
theorem tw14169843727101825803:True:=⟨⟩
theorem tw5938643947950739811:True:=⟨⟩
theorem tw7269189136758098088:True:=⟨⟩
theorem tw8625897303002317007:True:=⟨⟩
theorem tw9618077172537328503:True:=⟨⟩
theorem tw13849572518335123401:True:=⟨⟩
theorem tw4993848463467650388:True:=⟨⟩
theorem tw14182365060416318336:True:=⟨⟩
theorem tw8332676515595438660:True:=⟨⟩
theorem tw13060679339678479269:True:=⟨⟩
theorem tw7676964979419566462:True:=⟨⟩
theorem tw11112634151385837150:True:=⟨⟩
theorem tw15707115306245106056:True:=⟨⟩
theorem tw12500449105059155657:True:=⟨⟩
theorem tw2763003070741023983:True:=⟨⟩
theorem tw7394472225650606070:True:=⟨⟩
theorem tw5863258549750277274:True:=⟨⟩
theorem tw461804499970827676:True:=⟨⟩
theorem tw3558632772773349769:True:=⟨⟩
theorem tw8114472220600809000:True:=⟨⟩
theorem tw3542325561462786441:True:=⟨⟩
theorem tw3054706717185368725:True:=⟨⟩
theorem tw2465780327857219802:True:=⟨⟩
theorem tw18426377801158557210:True:=⟨⟩
theorem tw9257026054921636238:True:=⟨⟩
theorem tw8368207519487988512:True:=⟨⟩
theorem tw7671930478772946096:True:=⟨⟩
theorem tw232592563763393330:True:=⟨⟩
theorem tw6242141989894863307:True:=⟨⟩
theorem tw9643142302727706733:True:=⟨⟩
theorem tw4321498967095650330:True:=⟨⟩
theorem tw7371713726748245777:True:=⟨⟩
theorem tw11185814757748092887:True:=⟨⟩
theorem tw4392956390302462028:True:=⟨⟩
theorem tw5533303254166954114:True:=⟨⟩
theorem tw622897567960729360:True:=⟨⟩
theorem tw10973476008095949921:True:=⟨⟩
theorem tw9890154471403418547:True:=⟨⟩
theorem tw12517820932581918739:True:=⟨⟩
theorem tw4812873744592184669:True:=⟨⟩
theorem tw2840636039674858153:True:=⟨⟩
theorem tw8407397725695045638:True:=⟨⟩
theorem tw2447005284544629494:True:=⟨⟩
theorem tw3976960954263371154:True:=⟨⟩
theorem tw9484867490573630752:True:=⟨⟩
theorem tw17852900826041674632:True:=⟨⟩
theorem tw5263129876735358133:True:=⟨⟩
theorem tw3038521849466712214:True:=⟨⟩
theorem tw6779525865176991323:True:=⟨⟩
theorem tw6499380061411680499:True:=⟨⟩
theorem tw4589089897080438158:True:=⟨⟩
theorem tw11050221232139865069:True:=⟨⟩
theorem tw12072776175891653122:True:=⟨⟩
theorem tw14823612054938948170:True:=⟨⟩
theorem tw11782679393941005186:True:=⟨⟩
theorem tw11660004272774033710:True:=⟨⟩
theorem tw9812176329440786862:True:=⟨⟩
theorem tw15483286175807693872:True:=⟨⟩
theorem tw937485902373162576:True:=⟨⟩
theorem tw2103156479233194671:True:=⟨⟩
theorem tw8238044847925735465:True:=⟨⟩
theorem tw15614475454264716543:True:=⟨⟩
theorem tw310826915983719571:True:=⟨⟩
theorem tw17284970490103765634:True:=⟨⟩
theorem tw5249794927741169121:True:=⟨⟩
theorem tw4030003211643433627:True:=⟨⟩
theorem tw17699569823254270946:True:=⟨⟩
theorem tw2622878561514801995:True:=⟨⟩
theorem tw18094289905118860903:True:=⟨⟩
theorem tw7171090445521012602:True:=⟨⟩
theorem tw9751075905567291253:True:=⟨⟩
theorem tw10305421028271514618:True:=⟨⟩
theorem tw8147913473292056480:True:=⟨⟩
theorem tw17059163326766116311:True:=⟨⟩
theorem tw7774024871715264242:True:=⟨⟩
theorem tw9808105017316549810:True:=⟨⟩
theorem tw10181087708536942721:True:=⟨⟩
theorem tw2025685421977193197:True:=⟨⟩
theorem tw5108797745488842104:True:=⟨⟩
theorem tw10276071112389461635:True:=⟨⟩
theorem tw12591634825344923622:True:=⟨⟩
theorem tw6127222364873078869:True:=⟨⟩
theorem tw11775793572467323091:True:=⟨⟩
theorem tw3674842013282410295:True:=⟨⟩
theorem tw5339995096977166042:True:=⟨⟩
theorem tw1139699092284018736:True:=⟨⟩
theorem tw14500505947406064100:True:=⟨⟩
theorem tw6357589416275321471:True:=⟨⟩
theorem tw8450963261896301912:True:=⟨⟩
theorem tw15547665948041014442:True:=⟨⟩
theorem tw17709952011171061600:True:=⟨⟩
theorem tw2163961487907426641:True:=⟨⟩
theorem tw9018041974549695289:True:=⟨⟩
theorem tw13955022250382232666:True:=⟨⟩
theorem tw6050908634411731962:True:=⟨⟩
theorem tw4653725943244180035:True:=⟨⟩
theorem tw7793913505911540138:True:=⟨⟩
theorem tw17899080885728984639:True:=⟨⟩
theorem tw11780888497097467815:True:=⟨⟩
theorem tw2040755044331617171:True:=⟨⟩
theorem tw12096956637263210212:True:=⟨⟩
theorem tw13475034481696694133:True:=⟨⟩
theorem tw1551773412317597205:True:=⟨⟩
theorem tw905638623174598954:True:=⟨⟩
theorem tw15715324765182543493:True:=⟨⟩
theorem tw6105713317840612498:True:=⟨⟩
theorem tw14600156324171073742:True:=⟨⟩
theorem tw7487082316903161695:True:=⟨⟩
theorem tw17536514264575692797:True:=⟨⟩
theorem tw10953074109852988091:True:=⟨⟩
theorem tw4771655400462546400:True:=⟨⟩
theorem tw12198882321340993172:True:=⟨⟩
theorem tw10320228490535029889:True:=⟨⟩
theorem tw13730391781439079608:True:=⟨⟩
theorem tw2503326275610357059:True:=⟨⟩
theorem tw4590472702836326892:True:=⟨⟩
theorem tw8438554602834906713:True:=⟨⟩
theorem tw12273477910398830219:True:=⟨⟩
theorem tw17525936397391199284:True:=⟨⟩
theorem tw6799428324464576744:True:=⟨⟩
theorem tw15843207140809589822:True:=⟨⟩
theorem tw1482289419434259198:True:=⟨⟩
theorem tw13050260029188050170:True:=⟨⟩
theorem tw5937948438568315602:True:=⟨⟩
theorem tw13431094299858888376:True:=⟨⟩
theorem tw11652218752544948787:True:=⟨⟩
theorem tw2682663556484223145:True:=⟨⟩
theorem tw16261234785470273851:True:=⟨⟩
theorem tw7133549124915643618:True:=⟨⟩
theorem tw16158929650619202324:True:=⟨⟩
theorem tw3309679966009565522:True:=⟨⟩
theorem tw15495057100044457360:True:=⟨⟩
theorem tw3907284851894082357:True:=⟨⟩
theorem tw6516283152594279757:True:=⟨⟩
theorem tw355729657502400967:True:=⟨⟩
theorem tw6084613497981759570:True:=⟨⟩
theorem tw17539329531174089017:True:=⟨⟩
theorem tw7224638571121524243:True:=⟨⟩
theorem tw6607564190428588701:True:=⟨⟩
theorem tw14229064216080016925:True:=⟨⟩
theorem tw10325653910347344746:True:=⟨⟩
theorem tw8101089387879641153:True:=⟨⟩
theorem tw18354323640514703284:True:=⟨⟩
theorem tw9134879509547255752:True:=⟨⟩
theorem tw7960688621368993992:True:=⟨⟩
theorem tw12900112205481217539:True:=⟨⟩
theorem tw14693385062390694934:True:=⟨⟩
theorem tw16778080794208608127:True:=⟨⟩
theorem tw1834845535229849418:True:=⟨⟩
theorem tw2467450915363578408:True:=⟨⟩
theorem tw17965244608905981379:True:=⟨⟩
theorem tw6631226178590479071:True:=⟨⟩
theorem tw6458744112929620805:True:=⟨⟩
theorem tw10255906260595762354:True:=⟨⟩
theorem tw8511641211851926526:True:=⟨⟩
theorem tw13674286579724964285:True:=⟨⟩
theorem tw8710094505853052659:True:=⟨⟩
theorem tw16354292081947357009:True:=⟨⟩
theorem tw2608569354301759706:True:=⟨⟩
theorem tw16840946061730543145:True:=⟨⟩
theorem tw16874329790580861367:True:=⟨⟩
theorem tw8361860869712110155:True:=⟨⟩
theorem tw18309275397578806447:True:=⟨⟩
theorem tw14512607074349248890:True:=⟨⟩
theorem tw18117951134273609738:True:=⟨⟩
theorem tw10554076026829516774:True:=⟨⟩
theorem tw11325278220012765033:True:=⟨⟩
theorem tw2659276954621647959:True:=⟨⟩
theorem tw18418240009719943220:True:=⟨⟩
theorem tw12555850531550140732:True:=⟨⟩
theorem tw1685638759935582935:True:=⟨⟩
theorem tw8331940716827911953:True:=⟨⟩
theorem tw5690102211935983370:True:=⟨⟩
theorem tw16213255765044818260:True:=⟨⟩
theorem tw17626487418645390599:True:=⟨⟩
theorem tw6329414615254133743:True:=⟨⟩
theorem tw17494350355201092097:True:=⟨⟩
theorem tw7737116086282819706:True:=⟨⟩
theorem tw14476501409829565408:True:=⟨⟩
theorem tw9920265405762611306:True:=⟨⟩
theorem tw12721422203611705914:True:=⟨⟩
theorem tw8514708576235204883:True:=⟨⟩
theorem tw17588669862742618968:True:=⟨⟩
theorem tw16764648606453643004:True:=⟨⟩
theorem tw6519378726874008444:True:=⟨⟩
theorem tw858442403684547822:True:=⟨⟩
theorem tw8026986616692520830:True:=⟨⟩
theorem tw17825011555365350823:True:=⟨⟩
theorem tw11958654684936662706:True:=⟨⟩
theorem tw9607436107094372852:True:=⟨⟩
theorem tw18420145332957536412:True:=⟨⟩
theorem tw8550374713106555219:True:=⟨⟩
theorem tw1607331111065564833:True:=⟨⟩
theorem tw1436434540654213665:True:=⟨⟩
theorem tw12466488823479335584:True:=⟨⟩
theorem tw11750357728434788193:True:=⟨⟩
theorem tw10985232488900873741:True:=⟨⟩
theorem tw2593933928266378261:True:=⟨⟩
theorem tw3228927821443321574:True:=⟨⟩
theorem tw6226213920426601170:True:=⟨⟩
theorem tw11657496118605298574:True:=⟨⟩
theorem tw5515763010515130652:True:=⟨⟩
theorem tw15381653917088360346:True:=⟨⟩
theorem tw9589808697330150214:True:=⟨⟩
theorem tw16702735174999804040:True:=⟨⟩
theorem tw1858518564074774953:True:=⟨⟩
theorem tw17883640577949960203:True:=⟨⟩
theorem tw9305311411406145036:True:=⟨⟩
theorem tw5539677255315992380:True:=⟨⟩
theorem tw6209711896427792033:True:=⟨⟩
theorem tw12129270545626222431:True:=⟨⟩
theorem tw4844779988755374895:True:=⟨⟩
theorem tw7046362260145186545:True:=⟨⟩
theorem tw15340628695568432108:True:=⟨⟩
theorem tw11801199301628766475:True:=⟨⟩
theorem tw16680032660653315701:True:=⟨⟩
theorem tw10647070062707120466:True:=⟨⟩
theorem tw4592117843358222734:True:=⟨⟩
theorem tw6857651511146855278:True:=⟨⟩
theorem tw15719799140577618158:True:=⟨⟩
theorem tw1960311305516208433:True:=⟨⟩
theorem tw2919082761147939291:True:=⟨⟩
theorem tw6140542869651126713:True:=⟨⟩
theorem tw4322489915237885552:True:=⟨⟩
theorem tw18129035097212472343:True:=⟨⟩
theorem tw6676811069475826836:True:=⟨⟩
theorem tw13581920558493162849:True:=⟨⟩
theorem tw4610018061398042711:True:=⟨⟩
theorem tw6779011374673182473:True:=⟨⟩
theorem tw5062255534564327850:True:=⟨⟩
theorem tw5731762264331746217:True:=⟨⟩
theorem tw17947996006411913313:True:=⟨⟩
theorem tw12574818063311300097:True:=⟨⟩
theorem tw8670966763736895519:True:=⟨⟩
theorem tw16869271949305238256:True:=⟨⟩
theorem tw3063767078523433433:True:=⟨⟩
theorem tw2276273640390726612:True:=⟨⟩
theorem tw5165609343922277058:True:=⟨⟩
theorem tw4617738544555547482:True:=⟨⟩
theorem tw2813522415056624059:True:=⟨⟩
theorem tw3670390695609669547:True:=⟨⟩
theorem tw16492364235074411721:True:=⟨⟩
theorem tw10143336644567413359:True:=⟨⟩
theorem tw8339242387321516479:True:=⟨⟩
theorem tw16005092139251172747:True:=⟨⟩
theorem tw14942524190929440812:True:=⟨⟩
theorem tw7187587120854324885:True:=⟨⟩
theorem tw10013253198046088034:True:=⟨⟩
theorem tw6785859132743109620:True:=⟨⟩
theorem tw50161445601104268:True:=⟨⟩
theorem tw10687982547100083602:True:=⟨⟩
theorem tw3997073229891732797:True:=⟨⟩
theorem tw16444689196712883290:True:=⟨⟩
theorem tw815999140778830432:True:=⟨⟩
theorem tw10522862867625947712:True:=⟨⟩
theorem tw18048648796884342270:True:=⟨⟩
theorem tw15222978779144824548:True:=⟨⟩
theorem tw15030357394455308355:True:=⟨⟩
theorem tw15871891982749397163:True:=⟨⟩
theorem tw15462511120385055241:True:=⟨⟩
theorem tw15284671573044356345:True:=⟨⟩
theorem tw17130567570693447707:True:=⟨⟩
theorem tw8807624680835076263:True:=⟨⟩
theorem tw458471784875783330:True:=⟨⟩
theorem tw17780304344314133731:True:=⟨⟩
theorem tw17776018936931655211:True:=⟨⟩
theorem tw12755239099692937166:True:=⟨⟩
theorem tw2188769041297965265:True:=⟨⟩
theorem tw8041829463599173693:True:=⟨⟩
theorem tw7271367926635665817:True:=⟨⟩
theorem tw12687196593012446590:True:=⟨⟩
theorem tw5220340427822400455:True:=⟨⟩
theorem tw13378453495748126536:True:=⟨⟩
theorem tw14369504834011078157:True:=⟨⟩
theorem tw17889012181971706896:True:=⟨⟩
theorem tw5318351386992307740:True:=⟨⟩
theorem tw14126351179867707955:True:=⟨⟩
theorem tw8422151984499145202:True:=⟨⟩
theorem tw13938672860166149332:True:=⟨⟩
theorem tw18079896144674532339:True:=⟨⟩
theorem tw11454237360917188639:True:=⟨⟩
theorem tw3933789843972462605:True:=⟨⟩
theorem tw24640983900225456:True:=⟨⟩
theorem tw16515307048719819623:True:=⟨⟩
theorem tw15341577148279491334:True:=⟨⟩
theorem tw2588557001889521179:True:=⟨⟩
theorem tw12761494201879036392:True:=⟨⟩
theorem tw13903546085464728530:True:=⟨⟩
theorem tw14497134255978138540:True:=⟨⟩
theorem tw11506079050184207323:True:=⟨⟩
theorem tw10406986513243737489:True:=⟨⟩
theorem tw2327116666950491802:True:=⟨⟩
theorem tw16849340892719677124:True:=⟨⟩
theorem tw6020367870911290218:True:=⟨⟩
theorem tw5545998403448556681:True:=⟨⟩
theorem tw3690359385411096084:True:=⟨⟩
theorem tw6909120403798835668:True:=⟨⟩
theorem tw3788668646949722636:True:=⟨⟩
theorem tw601243076601225916:True:=⟨⟩
theorem tw15894759649076284108:True:=⟨⟩
theorem tw14041278322582850386:True:=⟨⟩
theorem tw6614996851325879027:True:=⟨⟩
theorem tw16634831791303471302:True:=⟨⟩
theorem tw9429714178380485187:True:=⟨⟩
theorem tw12728140864550261326:True:=⟨⟩
theorem tw4961219494129657134:True:=⟨⟩
theorem tw18030792269770583186:True:=⟨⟩
theorem tw7114704627030084157:True:=⟨⟩
theorem tw7578679668894478653:True:=⟨⟩
theorem tw7303960687609796264:True:=⟨⟩
theorem tw17004133653360514620:True:=⟨⟩
theorem tw2826069862283203364:True:=⟨⟩
theorem tw4140406114396939919:True:=⟨⟩
theorem tw6590286513754450943:True:=⟨⟩
theorem tw9019495789295117141:True:=⟨⟩
theorem tw941970164823489478:True:=⟨⟩
theorem tw13663991546966484322:True:=⟨⟩
theorem tw7431929643277767054:True:=⟨⟩
theorem tw17408270058394805751:True:=⟨⟩
theorem tw11536523609310534748:True:=⟨⟩
theorem tw6300248257388459119:True:=⟨⟩
theorem tw947881298506542669:True:=⟨⟩
theorem tw4647405543595383011:True:=⟨⟩
theorem tw10558157815850103715:True:=⟨⟩
theorem tw6593542753765730975:True:=⟨⟩
theorem tw14043641280761784499:True:=⟨⟩
theorem tw3170709715335611166:True:=⟨⟩
theorem tw4171750538736048512:True:=⟨⟩
theorem tw4205941973078467305:True:=⟨⟩
theorem tw8956282494083855377:True:=⟨⟩
theorem tw4960721216099984230:True:=⟨⟩
theorem tw5543948823046805978:True:=⟨⟩
theorem tw1077733392348205898:True:=⟨⟩
theorem tw17114728168512091279:True:=⟨⟩
theorem tw6194029518842143821:True:=⟨⟩
theorem tw17010401532738491121:True:=⟨⟩
theorem tw10766494713737907095:True:=⟨⟩
theorem tw17920728935447424768:True:=⟨⟩
theorem tw15554788697712158076:True:=⟨⟩
theorem tw3987125787258587417:True:=⟨⟩
theorem tw5235490896175607549:True:=⟨⟩
theorem tw4974328947399636351:True:=⟨⟩
theorem tw13388638221614819185:True:=⟨⟩
theorem tw16422325719876598007:True:=⟨⟩
theorem tw15550004590136452718:True:=⟨⟩
theorem tw16143271646095114333:True:=⟨⟩
theorem tw5634698719986751099:True:=⟨⟩
theorem tw8604709190468734311:True:=⟨⟩
theorem tw608260152586478758:True:=⟨⟩
theorem tw14022046513479380459:True:=⟨⟩
theorem tw4893732890303386699:True:=⟨⟩
theorem tw6713840206229606612:True:=⟨⟩
theorem tw16570261034210690708:True:=⟨⟩
theorem tw6572559044070052214:True:=⟨⟩
theorem tw1508375965967597820:True:=⟨⟩
theorem tw4511687822355313829:True:=⟨⟩
theorem tw10597422789408258918:True:=⟨⟩
theorem tw14105245915883681462:True:=⟨⟩
theorem tw12329337953183900114:True:=⟨⟩
theorem tw7107474385039172783:True:=⟨⟩
theorem tw9279408900942110252:True:=⟨⟩
theorem tw11860625816571760203:True:=⟨⟩
theorem tw7739555382177507897:True:=⟨⟩
theorem tw12038500746907533102:True:=⟨⟩
theorem tw8498750860985585108:True:=⟨⟩
theorem tw17413260078312900789:True:=⟨⟩
theorem tw6917191559519369093:True:=⟨⟩
theorem tw9783385807761192293:True:=⟨⟩
theorem tw15898871876805006062:True:=⟨⟩
theorem tw15350036156257589796:True:=⟨⟩
theorem tw13342502032133499515:True:=⟨⟩
theorem tw1020237833417634745:True:=⟨⟩
theorem tw4155479097005662165:True:=⟨⟩
theorem tw10598525209104772205:True:=⟨⟩
theorem tw7124069594862786481:True:=⟨⟩
theorem tw15021613271028835592:True:=⟨⟩
theorem tw4610371246787005999:True:=⟨⟩
theorem tw16408094155239115461:True:=⟨⟩
theorem tw13407857351418368304:True:=⟨⟩
theorem tw9805698929757947045:True:=⟨⟩
theorem tw11846660852547226798:True:=⟨⟩
theorem tw10741857613733922697:True:=⟨⟩
theorem tw9591531508411744246:True:=⟨⟩
theorem tw10756334822475285125:True:=⟨⟩
theorem tw3367487068993913213:True:=⟨⟩
theorem tw15234843098462459379:True:=⟨⟩
theorem tw15804608392519081921:True:=⟨⟩
theorem tw6508604663976845304:True:=⟨⟩
theorem tw8441122215648106662:True:=⟨⟩
theorem tw10198959060774779429:True:=⟨⟩
theorem tw14320673722227955722:True:=⟨⟩
theorem tw11085203376681043546:True:=⟨⟩
theorem tw5420762479873183113:True:=⟨⟩
theorem tw4945431591913027723:True:=⟨⟩
theorem tw2374747017248340762:True:=⟨⟩
theorem tw7683032019670219680:True:=⟨⟩
theorem tw9080383713277578037:True:=⟨⟩
theorem tw8990447850480033956:True:=⟨⟩
theorem tw1639429905741848804:True:=⟨⟩
theorem tw3953840270424913140:True:=⟨⟩
theorem tw18200752885767326503:True:=⟨⟩
theorem tw13462632986008319194:True:=⟨⟩
theorem tw13928157234289302269:True:=⟨⟩
theorem tw885823747415012907:True:=⟨⟩
theorem tw13197162696211542747:True:=⟨⟩
theorem tw4647265942251188817:True:=⟨⟩
theorem tw5037805871053036664:True:=⟨⟩
theorem tw8535699046261558571:True:=⟨⟩
theorem tw16657042837098758520:True:=⟨⟩
theorem tw13685271763391577445:True:=⟨⟩
theorem tw6243348154798431621:True:=⟨⟩
theorem tw14102592912674940858:True:=⟨⟩
theorem tw2520646084756021498:True:=⟨⟩
theorem tw9473516292992041765:True:=⟨⟩
theorem tw14314834048492770653:True:=⟨⟩
theorem tw2988184721292070560:True:=⟨⟩
theorem tw12729116498460646089:True:=⟨⟩
theorem tw6623511865336307327:True:=⟨⟩
theorem tw13770537058899578327:True:=⟨⟩
theorem tw10572361795483117635:True:=⟨⟩
theorem tw12474164151502833562:True:=⟨⟩
theorem tw8535440366332686129:True:=⟨⟩
theorem tw12586642336754174561:True:=⟨⟩
theorem tw10549697058576762334:True:=⟨⟩
theorem tw4124601424455972705:True:=⟨⟩
theorem tw9962777990641452179:True:=⟨⟩
theorem tw8033221370880710187:True:=⟨⟩
theorem tw3550688328241509506:True:=⟨⟩
theorem tw7615799907356887753:True:=⟨⟩
theorem tw16740049508331792292:True:=⟨⟩
theorem tw9285183714596623098:True:=⟨⟩
theorem tw3986071074444045575:True:=⟨⟩
theorem tw2841511328611960301:True:=⟨⟩
theorem tw6204366843714433820:True:=⟨⟩
theorem tw12756388898963141489:True:=⟨⟩
theorem tw18129116978544835785:True:=⟨⟩
theorem tw10544570154835099450:True:=⟨⟩
theorem tw16642209658909598262:True:=⟨⟩
theorem tw2298290928045813554:True:=⟨⟩
theorem tw4729010749579757635:True:=⟨⟩
theorem tw13783748028405589924:True:=⟨⟩
theorem tw927470060535619001:True:=⟨⟩
theorem tw13332834083725415517:True:=⟨⟩
theorem tw4003399441939803579:True:=⟨⟩
theorem tw12905229320384982384:True:=⟨⟩
theorem tw14487428927724018199:True:=⟨⟩
theorem tw8531771866950524926:True:=⟨⟩
theorem tw11787057921599411971:True:=⟨⟩
theorem tw9077936894575288670:True:=⟨⟩
theorem tw13112039979895285878:True:=⟨⟩
theorem tw10159376534245408251:True:=⟨⟩
theorem tw14881855183086920207:True:=⟨⟩
theorem tw1358331212457612104:True:=⟨⟩
theorem tw11251424539194708488:True:=⟨⟩
theorem tw16130748072588621944:True:=⟨⟩
theorem tw12699972742232708998:True:=⟨⟩
theorem tw232880356572893839:True:=⟨⟩
theorem tw12327808286859471098:True:=⟨⟩
theorem tw17750623751744581233:True:=⟨⟩
theorem tw12730784262314126436:True:=⟨⟩
theorem tw16458370518997697375:True:=⟨⟩
theorem tw16335185155760361294:True:=⟨⟩
theorem tw14561966637311675576:True:=⟨⟩
theorem tw1263683897158166487:True:=⟨⟩
theorem tw7247276136627983311:True:=⟨⟩
theorem tw15274539356235527625:True:=⟨⟩
theorem tw1848972215055703381:True:=⟨⟩
theorem tw11532644798007005773:True:=⟨⟩
theorem tw16883209133401082033:True:=⟨⟩
theorem tw9491942395707902128:True:=⟨⟩
theorem tw2858961221761135394:True:=⟨⟩
theorem tw14987158110149547314:True:=⟨⟩
theorem tw8810975719051048031:True:=⟨⟩
theorem tw18228661457633837328:True:=⟨⟩
theorem tw5296790599939704361:True:=⟨⟩
theorem tw7471095029033311720:True:=⟨⟩
theorem tw10466650624739529964:True:=⟨⟩
theorem tw1171522842688910213:True:=⟨⟩
theorem tw8302867588079266734:True:=⟨⟩
theorem tw4937858317579810338:True:=⟨⟩
theorem tw9703704356554929922:True:=⟨⟩
theorem tw14937521766758041703:True:=⟨⟩
theorem tw16042266759248013205:True:=⟨⟩
theorem tw6049323727611174218:True:=⟨⟩
theorem tw17184531736968715484:True:=⟨⟩
theorem tw13920298454617989574:True:=⟨⟩
theorem tw759428914781255376:True:=⟨⟩
theorem tw12976454149549044692:True:=⟨⟩
theorem tw12450103904371557643:True:=⟨⟩
theorem tw13983420355112970549:True:=⟨⟩
theorem tw17602751194796777551:True:=⟨⟩
theorem tw10641867852840615101:True:=⟨⟩
theorem tw5252325161146096157:True:=⟨⟩
theorem tw8103124392558417271:True:=⟨⟩
theorem tw2645123782273432867:True:=⟨⟩
theorem tw3127436753069771588:True:=⟨⟩
theorem tw13332317236216974257:True:=⟨⟩
theorem tw12381964140184924453:True:=⟨⟩
theorem tw7170338839478842601:True:=⟨⟩
theorem tw7074970127901795203:True:=⟨⟩
theorem tw5035232127002528509:True:=⟨⟩
theorem tw1880278855049509545:True:=⟨⟩
theorem tw9762353034830034629:True:=⟨⟩
theorem tw810527837855834830:True:=⟨⟩
theorem tw17764192797083626976:True:=⟨⟩
theorem tw4954597964684830221:True:=⟨⟩
theorem tw12115779085575080166:True:=⟨⟩
theorem tw2084840589373844904:True:=⟨⟩
theorem tw11743063985422622829:True:=⟨⟩
theorem tw15785979964721877834:True:=⟨⟩
theorem tw11247694041464195843:True:=⟨⟩
theorem tw12405471153535335759:True:=⟨⟩
theorem tw11115005423136738438:True:=⟨⟩
theorem tw4989984217746729178:True:=⟨⟩
theorem tw14452885368922006818:True:=⟨⟩
theorem tw10353893126778410292:True:=⟨⟩
theorem tw17912558495304411050:True:=⟨⟩
theorem tw2009038693451387944:True:=⟨⟩
theorem tw13297930823975929515:True:=⟨⟩
theorem tw2681677315929298345:True:=⟨⟩
theorem tw8652893744390491276:True:=⟨⟩
theorem tw16416736115826424902:True:=⟨⟩
theorem tw6129808937200735481:True:=⟨⟩
theorem tw17397696718669382165:True:=⟨⟩
theorem tw5413618155453011868:True:=⟨⟩
theorem tw6647477694512829250:True:=⟨⟩
theorem tw10244213212025886671:True:=⟨⟩
theorem tw9971396149935826045:True:=⟨⟩
theorem tw12949548220304595005:True:=⟨⟩
theorem tw15909752075497051540:True:=⟨⟩
theorem tw17031961941542491996:True:=⟨⟩
theorem tw3138395169018017364:True:=⟨⟩
theorem tw4689786590528116858:True:=⟨⟩
theorem tw821519792343483911:True:=⟨⟩
theorem tw17241058963619720850:True:=⟨⟩
theorem tw11123430206318688624:True:=⟨⟩
theorem tw16538115169519248506:True:=⟨⟩
theorem tw2758076025341942877:True:=⟨⟩
theorem tw15191028430166011933:True:=⟨⟩
theorem tw6003321033160742645:True:=⟨⟩
theorem tw11778733910531149655:True:=⟨⟩
theorem tw2146018707200347618:True:=⟨⟩
theorem tw11855389242659346065:True:=⟨⟩
theorem tw1702578228319128949:True:=⟨⟩
theorem tw10108245013178841818:True:=⟨⟩
theorem tw1021872424324759607:True:=⟨⟩
theorem tw16278921031727841561:True:=⟨⟩
theorem tw9149801196639932110:True:=⟨⟩
theorem tw7571487691209860706:True:=⟨⟩
theorem tw10770774142275396088:True:=⟨⟩
theorem tw15955139734133891823:True:=⟨⟩
theorem tw6979498394049181739:True:=⟨⟩
theorem tw14677777035487287539:True:=⟨⟩
theorem tw11532165975547851350:True:=⟨⟩
theorem tw17638776709789210909:True:=⟨⟩
theorem tw7153306486913053043:True:=⟨⟩
theorem tw17200485040009220612:True:=⟨⟩
theorem tw3716532025620626515:True:=⟨⟩
theorem tw3380773859150875352:True:=⟨⟩
theorem tw2563509172665234982:True:=⟨⟩
theorem tw15901761433992294477:True:=⟨⟩
theorem tw15601881099168795375:True:=⟨⟩
theorem tw8715903048146874459:True:=⟨⟩
theorem tw2691650727160114053:True:=⟨⟩
theorem tw550067210120064727:True:=⟨⟩
theorem tw13554539243171648355:True:=⟨⟩
theorem tw1811863537239657164:True:=⟨⟩
theorem tw7762710380542975277:True:=⟨⟩
theorem tw11427470519029173695:True:=⟨⟩
theorem tw8561453008618788322:True:=⟨⟩
theorem tw4852739029692073354:True:=⟨⟩
theorem tw10842477116133056060:True:=⟨⟩
theorem tw18286248489048436262:True:=⟨⟩
theorem tw11434268907339511676:True:=⟨⟩
theorem tw1032444138492908144:True:=⟨⟩
theorem tw16717851360518984753:True:=⟨⟩
theorem tw11894013263332209923:True:=⟨⟩
theorem tw122752383506503348:True:=⟨⟩
theorem tw7134191819155378316:True:=⟨⟩
theorem tw6706008382433899957:True:=⟨⟩
theorem tw4150922630072611745:True:=⟨⟩
theorem tw6393029196489799153:True:=⟨⟩
theorem tw21984162548943584:True:=⟨⟩
theorem tw5157570593931243487:True:=⟨⟩
theorem tw8526627785690979332:True:=⟨⟩
theorem tw4508900274879140004:True:=⟨⟩
theorem tw6785379681011008072:True:=⟨⟩
theorem tw12211106017025121359:True:=⟨⟩
theorem tw7359964303856036027:True:=⟨⟩
theorem tw17487073091087957550:True:=⟨⟩
theorem tw17400787383488956912:True:=⟨⟩
theorem tw11759135464626335388:True:=⟨⟩
theorem tw1448146922204140899:True:=⟨⟩
theorem tw7393913797664857279:True:=⟨⟩
theorem tw10288682845147792506:True:=⟨⟩
theorem tw3867116725609332580:True:=⟨⟩
theorem tw10952762486172739055:True:=⟨⟩
theorem tw14524435313024501155:True:=⟨⟩
theorem tw15111728538442608889:True:=⟨⟩
theorem tw5319966151787867028:True:=⟨⟩
theorem tw11837102587390768091:True:=⟨⟩
theorem tw14356069133495342233:True:=⟨⟩
theorem tw18023310058791290425:True:=⟨⟩
theorem tw6122942344211295094:True:=⟨⟩
theorem tw18207089025681029232:True:=⟨⟩
theorem tw10770658674825267889:True:=⟨⟩
theorem tw16205147539870421547:True:=⟨⟩
theorem tw17350479032748591962:True:=⟨⟩
theorem tw14500770262615156399:True:=⟨⟩
theorem tw2064740383626106727:True:=⟨⟩
theorem tw15469233481791616833:True:=⟨⟩
theorem tw17115143047823378158:True:=⟨⟩
theorem tw1842851386950994580:True:=⟨⟩
theorem tw10076681133361147559:True:=⟨⟩
theorem tw13899220478202108613:True:=⟨⟩
theorem tw11974821565268978890:True:=⟨⟩
theorem tw4274404167162982614:True:=⟨⟩
theorem tw3441839701042135377:True:=⟨⟩
theorem tw17284397424198647387:True:=⟨⟩
theorem tw10683320576187096204:True:=⟨⟩
theorem tw14166059379459593383:True:=⟨⟩
theorem tw6302193700411070958:True:=⟨⟩
theorem tw16487161051863628585:True:=⟨⟩
theorem tw18012816845880886555:True:=⟨⟩
theorem tw9121883986197406290:True:=⟨⟩
theorem tw13668850268410941800:True:=⟨⟩
theorem tw3142108797889549165:True:=⟨⟩
theorem tw9964994535934245262:True:=⟨⟩
theorem tw15905010609029895059:True:=⟨⟩
theorem tw18062298313344821210:True:=⟨⟩
theorem tw2861767876366988735:True:=⟨⟩
theorem tw4412169378806954236:True:=⟨⟩
theorem tw4688186962748072559:True:=⟨⟩
theorem tw13548995286166300352:True:=⟨⟩
theorem tw3841124739053492947:True:=⟨⟩
theorem tw1354807146228514824:True:=⟨⟩
theorem tw12511514823213425731:True:=⟨⟩
theorem tw8055755301984786562:True:=⟨⟩
theorem tw9019536526999772260:True:=⟨⟩
theorem tw2721867587737702011:True:=⟨⟩
theorem tw14609015347236857251:True:=⟨⟩
theorem tw14682492894404164108:True:=⟨⟩
theorem tw1054676931641883434:True:=⟨⟩
theorem tw8679117727964015290:True:=⟨⟩
theorem tw363239981376279149:True:=⟨⟩
theorem tw1232157895670416889:True:=⟨⟩
theorem tw6452026882310303661:True:=⟨⟩
theorem tw8336957192888051876:True:=⟨⟩
theorem tw13821915384500084970:True:=⟨⟩
theorem tw14865189377287881171:True:=⟨⟩
theorem tw6544487654392355492:True:=⟨⟩
theorem tw5235797782590900158:True:=⟨⟩
theorem tw17886611818697351869:True:=⟨⟩
theorem tw11991247201407331179:True:=⟨⟩
theorem tw12618231202463837386:True:=⟨⟩
theorem tw12436117176459229503:True:=⟨⟩
theorem tw17065654282683118411:True:=⟨⟩
theorem tw17891181466855184954:True:=⟨⟩
theorem tw15120559853192046454:True:=⟨⟩
theorem tw18037505087899208341:True:=⟨⟩
theorem tw15942467192666841941:True:=⟨⟩
theorem tw10537899375133304919:True:=⟨⟩
theorem tw15323601725564497050:True:=⟨⟩
theorem tw12086907584052413525:True:=⟨⟩
theorem tw4753856289734700109:True:=⟨⟩
theorem tw1211255799613524305:True:=⟨⟩
theorem tw10484225177051054415:True:=⟨⟩
theorem tw6320565907420737288:True:=⟨⟩
theorem tw15108877784567266324:True:=⟨⟩
theorem tw14302840468707856060:True:=⟨⟩
theorem tw4945872168140276043:True:=⟨⟩
theorem tw3952258765694242572:True:=⟨⟩
theorem tw11066852349105868540:True:=⟨⟩
theorem tw18134718209225431903:True:=⟨⟩
theorem tw15205915607932697037:True:=⟨⟩
theorem tw13304428797688029684:True:=⟨⟩
theorem tw373850838177077017:True:=⟨⟩
theorem tw17701192964010367886:True:=⟨⟩
theorem tw9019806466116688785:True:=⟨⟩
theorem tw6960595947093596793:True:=⟨⟩
theorem tw4074496761745954875:True:=⟨⟩
theorem tw14725749608986786457:True:=⟨⟩
theorem tw8577278432098673274:True:=⟨⟩
theorem tw7091037062622621773:True:=⟨⟩
theorem tw3205581940597215330:True:=⟨⟩
theorem tw4835444448745832442:True:=⟨⟩
theorem tw9139382192659966936:True:=⟨⟩
theorem tw18106006241222997017:True:=⟨⟩
theorem tw4176482155254557795:True:=⟨⟩
theorem tw10537143223653591429:True:=⟨⟩
theorem tw4243507267373911433:True:=⟨⟩
theorem tw6212274772325099052:True:=⟨⟩
theorem tw10811240773975333816:True:=⟨⟩
theorem tw17375986491212814926:True:=⟨⟩
theorem tw170412015631793399:True:=⟨⟩
theorem tw16391519152669066034:True:=⟨⟩
theorem tw15580420782502593740:True:=⟨⟩
theorem tw2769646791485515229:True:=⟨⟩
theorem tw11903673022008705471:True:=⟨⟩
theorem tw2496197961234524947:True:=⟨⟩
theorem tw11280870548112106866:True:=⟨⟩
theorem tw5107334899920511184:True:=⟨⟩
theorem tw16427400243234318061:True:=⟨⟩
theorem tw7806965731242383663:True:=⟨⟩
theorem tw16554960393197953198:True:=⟨⟩
theorem tw7004887031378321935:True:=⟨⟩
theorem tw11635783551075351873:True:=⟨⟩
theorem tw4820847450797642605:True:=⟨⟩
theorem tw2579956275120323117:True:=⟨⟩
theorem tw12995818448790255858:True:=⟨⟩
theorem tw9793029883271600327:True:=⟨⟩
theorem tw4751512637396066047:True:=⟨⟩
theorem tw18177695579911774823:True:=⟨⟩
theorem tw15518760931343594756:True:=⟨⟩
theorem tw4688962586185251174:True:=⟨⟩
theorem tw18215599874351712618:True:=⟨⟩
theorem tw17437948271500468484:True:=⟨⟩
theorem tw14864470891547344227:True:=⟨⟩
theorem tw11441611256010479119:True:=⟨⟩
theorem tw6232278386955852559:True:=⟨⟩
theorem tw4304720655929444030:True:=⟨⟩
theorem tw979251582643672813:True:=⟨⟩
theorem tw14363815758615192630:True:=⟨⟩
theorem tw5148877888046168251:True:=⟨⟩
theorem tw7596754737080235829:True:=⟨⟩
theorem tw16877405062072529433:True:=⟨⟩
theorem tw15562489014726322045:True:=⟨⟩
theorem tw10696529419500920844:True:=⟨⟩
theorem tw15696936878783804499:True:=⟨⟩
theorem tw5860094737094281429:True:=⟨⟩
theorem tw7083646797278215443:True:=⟨⟩
theorem tw255011922967709609:True:=⟨⟩
theorem tw7236163980987949884:True:=⟨⟩
theorem tw16139655839924476708:True:=⟨⟩
theorem tw208034131405216179:True:=⟨⟩
theorem tw813383645285382229:True:=⟨⟩
theorem tw806802470324991788:True:=⟨⟩
theorem tw1674642595981439234:True:=⟨⟩
theorem tw14851602630360636915:True:=⟨⟩
theorem tw4401593542850400320:True:=⟨⟩
theorem tw3118722558659805266:True:=⟨⟩
theorem tw869363137713436508:True:=⟨⟩
theorem tw9944317321210216132:True:=⟨⟩
theorem tw10374565807803500643:True:=⟨⟩
theorem tw10947612995359586166:True:=⟨⟩
theorem tw738439144303117188:True:=⟨⟩
theorem tw7330477440402722639:True:=⟨⟩
theorem tw401181324139316158:True:=⟨⟩
theorem tw11341694298769254602:True:=⟨⟩
theorem tw16677296379359531282:True:=⟨⟩
theorem tw4836955313990853064:True:=⟨⟩
theorem tw7411955070964346468:True:=⟨⟩
theorem tw13745178985676004695:True:=⟨⟩
theorem tw13181377844432088017:True:=⟨⟩
theorem tw12640823381594021823:True:=⟨⟩
theorem tw5405852085524946899:True:=⟨⟩
theorem tw7011364610993887959:True:=⟨⟩
theorem tw18143664056832680991:True:=⟨⟩
theorem tw9172968781294859285:True:=⟨⟩
theorem tw15879886281872475145:True:=⟨⟩
theorem tw7674657051566684942:True:=⟨⟩
theorem tw14161781255098407099:True:=⟨⟩
theorem tw16842157804171597504:True:=⟨⟩
theorem tw15509164670363429908:True:=⟨⟩
theorem tw15763123260657907194:True:=⟨⟩
end PySem.W.Fast
open PySem PySem.W PyProof.Rows
set_option maxRecDepth 100000 in
set_option maxHeartbeats 0 in
theorem PySem.Challenge.cw_lentwork_k32_what_is_no_line_holds : PySem.Challenge.rw_lentwork_k32_what_is_no_line.Holds := by
  w_on; o_law; k_head; (case hw => w_witness2)
  k_fill
  refine Ls.walk (l := PySem.Challenge.rw_lentwork_k32_what_is_no_line) (TG := 488) (TP := 549) rfl rfl (fun w h Y => ⟨km_in_of Y, by kernel_rfl, Ls.tabsOk (km_tabs_of Y 488 (by k_mem)) (codeHd_of_K (c := 492) (P := 488) (km_in_of Y) (by kernel_rfl)) (km_tabs_of Y 549 (by k_mem)) (codeHd_of_K (c := 551) (P := 549) (km_in_of Y) (by kernel_rfl))⟩) ?F
  case F =>
    intro w mg fa h KX G hmg
    refine' Ls.all_mk (TG := 488) (TP := 549) (by decide) KX G hmg ?_ ?_ ?_ ?_ ?_ ?_ ?_ ?_ ?_ ?_ ?_ ?_ ?_ ?_ ?_ ?_ ?_ ?_ ?_ ?_ ?_ ?_ ?_ ?_ ?_ ?_ ?_ ?_ ?_ ?_ ?_ ?_ ?_ ?_ ?_ ?_ ?_ ?_ ?_ ?_ ?_ ?_ ?_ ?_ ?_ ?_ ?_ ?_ ?_ ?_ ?_ ?_ ?_ ?_ ?_ ?_ ?_ ?_ ?_ ?_ ?_ ?_ ?_ ?_ ?_ ?_ ?_ ?_ ?_ ?_ ?_ ?_ ?_ ?_ ?_ ?_ ?_ ?_ ?_ ?_ ?_ ?_ ?_ ?_ ?_ ?_ ?_ ?_ ?_ ?_ ?_ ?_ ?_ ?_ ?_ ?_ ?_ ?_ ?_ ?_ ?_ ?_ ?_ ?_ ?_ ?_ ?_ ?_ ?_ ?_
    rotate_left 83
    iterate 25 focus k_is
    iterate 11 focus exact Ls.Df.mk (by k_is) (by k_is) (by k_is) (by k_is)
    focus exact Ls.Dc.mk (by k_is) (by k_is) (by k_is) (by k_is) (by kernel_rfl)
    iterate 12 focus exact Ls.Df.mk (by k_is) (by k_is) (by k_is) (by k_is)
    iterate 21 focus exact Ls.Mf.mk (by k_is) (by k_is) (by k_is) (by k_is) (by k_is)
    focus exact Ls.Mc.mk (by k_is) (by k_is) (by k_is) (by k_is) (by k_is) (by kernel_rfl)
    iterate 11 focus exact Ls.Mf.mk (by k_is) (by k_is) (by k_is) (by k_is) (by k_is)
    focus exact Ls.Df.mk (by k_is) (by k_is) (by k_is) (by k_is)
    iterate 17 focus k_is
    focus (refine ⟨⟨?_,?_,?_,?_⟩,?_,?_,?_,?_,?_,?_,?_⟩ <;> (try unfold L2.NoAttr) <;> k_is)
    focus (refine ⟨⟨?_,?_,?_,?_⟩,?_,?_,?_,?_⟩ <;> (try unfold L2.NoAttr) <;> k_is)
    focus (refine ⟨⟨?_,?_,?_,?_⟩,?_,?_,?_,?_,?_,?_,?_,?_,?_,?_,?_⟩ <;> (try unfold L2.NoAttr) <;> k_is)
    focus (exact ⟨by unfold L2.ExcIs;k_exc,by kernel_rfl,by k_is,by k_is,by k_is,by k_is,by k_is,by k_is,by k_is⟩)
    focus ((unfold L2.ExcIs;k_exc))
    iterate 5 focus kernel_rfl

