import PyProof.Rows.All
import Wide.All
import OpenK.AllK
import Wide.FinOn
import Lean
import PyProof.EqAt
import PyProof.EqKinds
import PyProof.TupleCall
import PySem.Challenge.RW_lentwork_k36_texts_of_no_book
set_option Elab.async false
set_option linter.all false
set_option maxRecDepth 100000
namespace L2
open PySem PySem.Spec PyProof.Rows
abbrev Key:=Sum Int Str
def oQ:Key->Value->Bool
 | .inl k,v=>Value.isInt k v
 | .inr x,v=>Value.isStrOf x v
def keyH (w:World):Key->Int
 | .inl k=>hashInt k
 | .inr x=>hashStr w x
theorem cW:∀{k:Key} {v:Value},oQ k v=true->(∃i t,k=Sum.inl i/\v=Value.int i t)\/(∃x t,k=Sum.inr x/\v=Value.str x t)
 | .inl i,v,h=>by
  obtain⟨t,e⟩:=Value.isInt_shape (k:=i) (v:=v) h
  exact .inl ⟨i,t,rfl,e⟩
 | .inr x,v,h=>by
  obtain⟨t,e⟩:=Value.isStrOf_shape (x:=x) (v:=v) h
  exact .inr ⟨x,t,rfl,e⟩
theorem xQ (i:Int) (t:Tok):oQ (.inl i) (.int i t)=true:=by simp [oQ,Value.isInt]
theorem xP (x:Str) (t:Tok):oQ (.inr x) (.str x t)=true:=by simp [oQ,Value.isStrOf]
theorem key_ll (a b:Int):decide ((Sum.inl a:Key)=Sum.inl b)=(a == b):=by
 by_cases e:a=b
 ·subst e;simp
 ·have h:¬ (Sum.inl a:Key)=Sum.inl b:=fun q=>e (Sum.inl.inj q)
  rw [decide_eq_false h]
  exact(beq_eq_false_iff_ne.mpr e).symm
theorem key_rr (a b:Str):decide ((Sum.inr a:Key)=Sum.inr b)=decide (a=b):=by
 by_cases e:a=b
 ·subst e;simp
 ·have h:¬ (Sum.inr a:Key)=Sum.inr b:=fun q=>e (Sum.inr.inj q)
  rw [decide_eq_false h,decide_eq_false e]
theorem key_lr (a:Int) (b:Str):decide ((Sum.inl a:Key)=Sum.inr b)=false:=decide_eq_false (fun q=>nomatch q)
theorem key_rl (a:Str) (b:Int):decide ((Sum.inr a:Key)=Sum.inl b)=false:=decide_eq_false (fun q=>nomatch q)
def cV (prog:Program) (w:World):PySem.KeyKind prog w Key where
 is:=oQ
 hash:=keyH w
 inj:=fun v a b ha hb=>by
  rcases cW ha with ⟨i,t,rfl,rfl⟩|⟨x,t,rfl,rfl⟩
  ·rcases cW hb with ⟨j,u,rfl,e⟩|⟨y,u,rfl,e⟩
   ·injection e with e1 _;rw [e1]
   ·exact nomatch e
  ·rcases cW hb with ⟨j,u,rfl,e⟩|⟨y,u,rfl,e⟩
   ·exact nomatch e
   ·injection e with e1 _;rw [e1]
 byValue:=fun k v h=>by
  rcases cW h with ⟨i,t,rfl,rfl⟩|⟨x,t,rfl,rfl⟩ <;> rfl
 pyHash:=fun hv h=>by
  rcases cW hv with ⟨i,t,rfl,rfl⟩|⟨x,t,rfl,rfl⟩
  ·exact wpAny_pyHash_int h
  ·exact wpAny_pyHash_str h
 eqBool:=fun hu hv h=>by
  rcases cW hu with ⟨i,t,rfl,rfl⟩|⟨x,t,rfl,rfl⟩
  ·rcases cW hv with ⟨j,u,rfl,rfl⟩|⟨y,u,rfl,rfl⟩
   ·rw [key_ll] at h;exact wpAny_eqBool_int h
   ·rw [key_lr] at h;exact SeqAt.EqAt.int_str i t y u _ _ _ _ h
  ·rcases cW hv with ⟨j,u,rfl,rfl⟩|⟨y,u,rfl,rfl⟩
   ·rw [key_rl] at h;exact SeqAt.EqAt.str_int x t j u _ _ _ _ h
   ·rw [key_rr] at h;exact wpAny_eqBool_str h
 «strs»:=fun k x t v h=>by
  rcases cW h with ⟨i,u,rfl,e⟩|⟨y,u,rfl,e⟩
  ·exact nomatch e
  ·injection e with e1 _
   subst e1
   cases v <;> rfl
theorem sQ (prog:Program) (w:World) (i:Int) (t:Tok):(cV prog w).is (.inl i) (.int i t)=true:=xQ i t
theorem sP (prog:Program) (w:World) (x:Str) (t:Tok):(cV prog w).is (.inr x) (.str x t)=true:=xP x t
inductive V where
 | non|bl (b:Bool)|int (i:Int)|str (x:Str)|byt (b:Array UInt8)|flt (b:UInt64)|ref (a:Addr)|ty (n:String)
 deriving DecidableEq
def cJ:V->Value->Prop
 | .non,u=>u=Value.none
 | .bl b,u=>u=Value.bool b
 | .int i,u=>∃t,u=Value.int i t
 | .str x,u=>∃t,u=Value.str x t
 | .byt b,u=>∃t,u=Value.bytes b t
 | .flt b,u=>∃t,u=Value.float b t
 | .ref a,u=>u=Value.ref a
 | .ty n,u=>u=Value.type n
abbrev bY:List V->List Value->Prop:=Paired cJ
theorem bY.length {xs:List V} {us:List Value} (r:bY xs us):xs.length=us.length:=Paired.length r
theorem bY.get:∀{xs:List V} {us:List Value} {i:Nat} {x:V},bY xs us->xs[i]?=some x->∃u,us[i]?=some u/\cJ x u
 | _,_,_,_,.nil,e=>by simp at e
 | _,_,0,_,.cons r _,e=>by simp at e;subst e;exact⟨_,rfl,r⟩
 | _,_,i+1,x,.cons _ t,e=>by
  obtain⟨u,h1,h2⟩:=bY.get (i:=i) (x:=x) t (by simpa using e)
  exact⟨u,by simpa using h1,h2⟩
theorem bY.set {x:V} {u:Value} (r:cJ x u):∀{xs:List V} {us:List Value} (i:Nat),bY xs us->bY (xs.set i x) (us.set i u)
 | _,_,_,.nil=>.nil
 | _,_,0,.cons _ t=>.cons r t
 | _,_,i+1,.cons q t=>.cons q (bY.set r i t)
theorem bY.append:∀{xs ys:List V} {us ws:List Value},bY xs us->bY ys ws->bY (xs++ys) (us++ws)
 | _,_,_,_,.nil,s=>s
 | _,_,_,_,.cons r t,s=>.cons r (bY.append t s)
theorem bY.take:∀{xs:List V} {us:List Value} (n:Nat),bY xs us->bY (xs.take n) (us.take n)
 | _,_,0,_=>.nil
 | _,_,_+1,.nil=>.nil
 | _,_,n+1,.cons r t=>.cons r (bY.take n t)
theorem bY.drop:∀{xs:List V} {us:List Value} (n:Nat),bY xs us->bY (xs.drop n) (us.drop n)
 | _,_,0,r=>r
 | _,_,_+1,.nil=>.nil
 | _,_,n+1,.cons _ t=>bY.drop n t
def RelO:Option V->Option Value->Prop
 | some v,some u=>cJ v u
 | none,none=>True
 | _,_=>False
def KV {κ:Type}:List (κ × V)->List (κ × Value)->Prop:=Paired fun(p:κ × V) (q:κ × Value)=>p.1=q.1/\cJ p.2 q.2
def kV:Key->V
 | .inl i=>.int i
 | .inr x=>.str x
inductive HO where
 | lst (xs:List V)
 | tup (xs:List V)
 | dK (kvs:List (Key × V))|dT (kvs:List (List Key × V))
 | set (S:Int->Bool) (n:Nat)
 | ins (C dx:Addr) (fs:List (Str × V))
 | own (x:Addr)
 | xd (fs:List (Str × V))
 | met (f x:Addr)
 | rng (lo hi:Int)
 | frz (o:Obj) (u:HO)
 | tbl (ps:Array Value)
 | ext (φ:Heap->Prop)
abbrev Hp:=Addr->Option HO
def upd (H:Hp) (a:Addr) (o:HO):Hp:=fun b=>if b=a then some o else H b
theorem aE {H:Hp} {a:Addr} {o:HO}:upd H a o a=some o:=by unfold upd;rw [if_pos rfl]
theorem aP {H:Hp} {a b:Addr} {o:HO} (h:b≠a):upd H a o b=H b:=by unfold upd;rw [if_neg h]
theorem oO {H:Hp} {a b:Addr} {o u:HO} (h:H a=some o) (h':H b=some u) (d:o≠u):a≠b:=by
 intro e;subst e;rw [h] at h';exact d (Option.some.inj h')
theorem aL {H:Hp} {a b:Addr} {o:HO} (h:H a=some o) (h':H b=none):a≠b:=by
 intro e;subst e;rw [h] at h';cases h'
section
variable (P:Program) (w:World)
def cP (H:Hp) (h:Heap) (a:Addr):HO->Prop
 | .lst xs=>xs.length<=sizeLine/\∃(its:List Value) (n:Nat),bY xs its/\h.get? a=some { cls:=.type "list",data:=.seq its.toArray n }
 | .tup xs=>xs.length<=sizeLine/\∃its:List Value,bY xs its/\IsTup h a its.toArray
 | .dK kvs=>kvs.length<=sizeLine/\(a == sysModules)=false/\∃vs,KV kvs vs/\h.DictOf (cV P w) a vs
 | .dT kvs=>kvs.length<=sizeLine/\(a == sysModules)=false/\∃xs:List (List Key × Addr × Value),
   Paired (fun(p:List Key × V) (q:List Key × Addr × Value)=>p.1=q.1/\H q.2.1=some (.tup (p.1.map kV))/\cJ p.2 q.2.2) kvs xs /\
   ∃o es ep,h.get? a=some o/\o.ExactDict/\o.data=.dict es ep/\es.toList=xs.map (entryOfKey (tupleKind (cV P w)))/\(xs.map (·.1)).Nodup
 | .set S n=>h.SetOf (intKind P w) a S n
 | .ins C dx fs=>H dx=some (.own a)/\fs.length<=1000/\dx≠a/\h.get? a=some (PySem.W.instObj C dx) /\
   ∃mA,h.Ns1 dx mA/\(∀f,RelO (fs.lookup f) (mA f))/\PySem.Within mA (fs.map (·.1))
 | .own _=>∃o,h.get? a=some o
 | .xd fs=>∃mA,h.Ns1 a mA/\∀f,RelO (fs.lookup f) (mA f)
 | .rng lo hi=>∃t u v,h.get? a=some { cls:=.type "range",data:=.fields #[.int lo t,.int hi u,.int 1 v] }
 | .frz o u=>h.get? a=some o/\cP H h a u
 | .tbl ps=>h.get? a=some { cls:=.none,data:=.fields ps }
 | .met f x=>h.get? a=some (PySem.W.methodObj (.ref f) (.ref x))
 | .ext φ=>φ h/\(∃o,h.get? a=some o)/\∀h1 h2:Heap,φ h1->(∀o,h1.get? a=some o->h2.get? a=some o)->φ h2
def HOk (H:Hp) (h:Heap):Prop:=∀a o,H a=some o->cP P w H h a o
end
section
variable {P:Program} {w:World} {H H':Hp} {h h':Heap} {a:Addr} {o:HO}
theorem cP.lt (x:cP P w H h a o):a<h.objs.size:=by
 cases o with
 | lst xs=>obtain⟨_,_,_,_,e⟩:=x;exact Heap.lt_size e
 | tup xs=>obtain⟨_,_,_,p⟩:=x;exact p.lt
 | dK kvs=>obtain⟨_,_,_,_,o,_,_,e,_⟩:=x;exact Heap.lt_size e
 | dT kvs=>obtain⟨_,_,_,_,o,_,_,e,_⟩:=x;exact Heap.lt_size e
 | set S n=>obtain⟨o,_,_,_,e,_⟩:=x;exact Heap.lt_size e
 | ins C dx fs=>obtain⟨_,_,_,e,_⟩:=x;exact Heap.lt_size e
 | own y=>obtain⟨_,e⟩:=x;exact Heap.lt_size e
 | xd fs=>obtain⟨_,⟨_,_,_,e,_⟩,_⟩:=x;exact Heap.lt_size e
 | rng lo hi=>obtain⟨_,_,_,e⟩:=x;exact Heap.lt_size e
 | frz ob u=>obtain⟨e,_⟩:=x;exact Heap.lt_size e
 | tbl ps=>exact Heap.lt_size (show h.get? a=some _ from x)
 | met f y=>exact Heap.lt_size (show h.get? a=some _ from x)
 | ext φ=>obtain⟨_,⟨_,e⟩,_⟩:=x;exact Heap.lt_size e
theorem Paired.mapP {α β:Type} {F G:α->β->Prop}:∀{l₁:List α} {l₂:List β},Paired F l₁ l₂->(∀a b,F a b->G a b)->Paired G l₁ l₂
 | _,_,.nil,_=>.nil
 | _,_,.cons r t,f=>.cons (f _ _ r) (Paired.mapP t f)
theorem cP.stay (x:cP P w H h a o) (k:∀b u,(b=a\/H b=some (.own a))->h.get? b=some u->h'.get? b=some u)
  (ho:∀b,H b=some (.own a)->H' b=some (.own a)) (ht:∀b xs,H b=some (.tup xs)->H' b=some (.tup xs)):cP P w H' h' a o:=by
 induction o with
 | lst xs=>obtain⟨z,its,n,r,e⟩:=x;exact⟨z,its,n,r,k _ _ (.inl rfl) e⟩
 | tup xs=>obtain⟨z,its,r,ob,e,c⟩:=x;exact⟨z,its,r,ob,k _ _ (.inl rfl) e,c⟩
 | dK kvs=>obtain⟨z,y,vs,r,ob,es,ep,e,c⟩:=x;exact⟨z,y,vs,r,ob,es,ep,k _ _ (.inl rfl) e,c⟩
 | dT kvs=>
  obtain⟨z,y,xs,r,ob,es,ep,e,c⟩:=x
  exact⟨z,y,xs,Paired.mapP r fun p q z=>⟨z.1,ht _ _ z.2.1,z.2.2⟩,ob,es,ep,k _ _ (.inl rfl) e,c⟩
 | set S n=>obtain⟨ob,es,ep,t,e,c⟩:=x;exact⟨ob,es,ep,t,k _ _ (.inl rfl) e,c⟩
 | ins C dx fs=>
  obtain⟨d,z,ne,e,mA,⟨od,es,ep,e2,c⟩,r⟩:=x
  exact⟨ho _ d,z,ne,k _ _ (.inl rfl) e,mA,⟨od,es,ep,k _ _ (.inr d) e2,c⟩,r⟩
 | own y=>obtain⟨ob,e⟩:=x;exact⟨ob,k _ _ (.inl rfl) e⟩
 | xd fs=>obtain⟨mA,⟨od,es,ep,e,c⟩,r⟩:=x;exact⟨mA,⟨od,es,ep,k _ _ (.inl rfl) e,c⟩,r⟩
 | rng lo hi=>obtain⟨t,u,v,e⟩:=x;exact⟨t,u,v,k _ _ (.inl rfl) e⟩
 | frz ob u ih=>obtain⟨e,q⟩:=x;exact⟨k _ _ (.inl rfl) e,ih q⟩
 | tbl ps=>
  have e:h.get? a=some { cls:=.none,data:=.fields ps }:=x
  show h'.get? a=some { cls:=.none,data:=.fields ps }
  exact k a _ (.inl rfl) e
 | met f y=>
  have e:h.get? a=some (PySem.W.methodObj (.ref f) (.ref y)):=x
  show h'.get? a=some (PySem.W.methodObj (.ref f) (.ref y))
  exact k a _ (.inl rfl) e
 | ext φ=>obtain⟨p,⟨o,e⟩,st⟩:=x;exact⟨st _ _ p fun o q=>k _ _ (.inl rfl) q,⟨o,k _ _ (.inl rfl) e⟩,st⟩
theorem HOk.lt (x:HOk P w H h) (e:H a=some o):a<h.objs.size:=(x a o e).lt
theorem HOk.fresh (x:HOk P w H h) (e:h.objs.size<=a):H a=none:=by
 cases q:H a with
 | none=>rfl
 | some u=>exact absurd (Nat.lt_of_lt_of_le (x.lt q) e) (Nat.lt_irrefl _)
theorem HOk.kept (x:HOk P w H h) (k:∀b u,h.get? b=some u->h'.get? b=some u):HOk P w H h':=fun a o e=>
 (x a o e).stay (fun b u _ q=>k b u q) (fun _ q=>q) fun _ _ q=>q
theorem HOk.laid (x:HOk P w H h) (k:∀b u,h.get? b=some u->h'.get? b=some u) (hp:h.objs.size<=a) (new:cP P w (upd H a o) h' a o):HOk P w (upd H a o) h':=fun b u e=>by
 have hn:=x.fresh hp
 by_cases hb:b=a
 ·subst hb;rw [aE] at e;cases e;exact new
 ·rw [aP hb] at e
  exact(x b u e).stay (fun c v _ q=>k c v q) (fun c q=>by rw [aP (aL q hn)];exact q) fun c xs q=>by rw [aP (aL q hn)];exact q
end
def Rd (H:Hp) (a:Addr) (u:HO):Prop:=H a=some u\/∃o,H a=some (.frz o u)
theorem Rd.ok {P:Program} {w:World} {H:Hp} {h:Heap} {a:Addr} {u:HO} (r:Rd H a u) (x:HOk P w H h):cP P w H h a u:=by
 rcases r with r|⟨o,r⟩
 ·exact x a u r
 ·obtain⟨_,q⟩:=x a _ r
  exact q
def Mut:Option HO->Prop
 | some (.lst _)=>True
 | some (.dK _)=>True
 | some (.dT _)=>True
 | some (.set _ _)=>True
 | some (.ins _ _ _)=>True
 | some (.ext _)=>True
 | _=>False
section
variable {P:Program} {w:World} {H:Hp} {h h':Heap} {x e:Addr} {o':HO}
theorem HOk.write (ok:HOk P w H h) (mu:Mut (H x)) (he:e=x\/H e=some (.own x)) (k:∀b u,b≠e->h.get? b=some u->h'.get? b=some u) (heo:∃u,h'.get? e=some u)
  (new:cP P w (upd H x o') h' x o'):HOk P w (upd H x o') h':=fun b u q=>by
 have nown:∀c y,H c=some (.own y)->c≠x:=fun c y r z=>by subst z;rw [r] at mu;exact mu
 have ntup:∀c xs,H c=some (.tup xs)->c≠x:=fun c xs r z=>by subst z;rw [r] at mu;exact mu
 by_cases hb:b=x
 ·subst hb;rw [aE] at q;cases q;exact new
 ·rw [aP hb] at q
  by_cases hbe:b=e
  ·have q':H b=some (.own x):=by
    rcases he with z|z
    ·exact absurd (hbe.trans z) hb
    ·rw [hbe];exact z
   rw [q] at q';cases q'
   obtain⟨v,hv⟩:=heo
   exact⟨v,by rw [hbe];exact hv⟩
  ·refine(ok b u q).stay (fun c v hc r=>k c v ?_ r) (fun c r=>by rw [aP (nown c b r)];exact r) fun c xs r=>by rw [aP (ntup c xs r)];exact r
   rcases hc with rfl|hc
   ·exact hbe
   ·rintro rfl
    rcases he with z|z
    ·exact nown c b hc z
    ·rw [hc] at z;cases z;exact hb rfl
end
structure Un (fs ex:List Addr) (H H':Hp) (h h':Heap):Prop where
 keep:∀b o,h.get? b=some o->H b=none->b ∉ fs->b ∉ ex->h'.get? b=some o
 slot:∀b o,h.get? b=some o->H b=none->b ∈ fs->b ∉ ex->∃sl,h'.get? b=some { o with slots:=sl }
 free:∀b o,h.get? b=some o->H b=none->b ∉ ex->H' b=none
 there:∀b o,h.get? b=some o->b ∉ ex->∃o',h'.get? b=some o'
 tups:∀b xs,H b=some (.tup xs)->H' b=some (.tup xs)
 frzs:∀b o u,H b=some (.frz o u)->H' b=some (.frz o u)
 tbls:∀b ps,H b=some (.tbl ps)->∃more,H' b=some (.tbl (ps++more))
section
variable {fs fs' ex ex':List Addr} {H H1 H2:Hp} {h h1 h2 h':Heap} {a x e:Addr} {o:HO}
theorem Un.any (u:Un fs ex H H1 h h1) {b:Addr} {ob:Obj} (q:h.get? b=some ob) (n:H b=none) (hx:b ∉ ex):∃sl,h1.get? b=some { ob with slots:=sl }:=by
 by_cases hb:b ∈ fs
 ·exact u.slot b ob q n hb hx
 ·exact⟨ob.slots,u.keep b ob q n hb hx⟩
theorem Un.kept (k:∀b u,h.get? b=some u->h'.get? b=some u):Un fs ex H H h h':=
 ⟨fun b ob q _ _ _=>k b ob q,fun b ob q _ _ _=>⟨ob.slots,k b ob q⟩,fun _ _ _ n _=>n,fun b ob q _=>⟨ob,k b ob q⟩,fun _ _ q=>q,fun _ _ _ q=>q,fun _ ps q=>⟨#[],by rw [q];simp⟩⟩
theorem Un.refl:Un fs ex H H h h:=Un.kept fun _ _ q=>q
theorem Un.laid (k:∀b u,h.get? b=some u->h'.get? b=some u) (hp:h.objs.size<=a) (hn:H a=none):Un fs ex H (upd H a o) h h' where
 keep:=fun b u q _ _ _=>k b u q
 slot:=fun b u q _ _ _=>⟨u.slots,k b u q⟩
 free:=fun b u q n _=>by rw [aP (Nat.ne_of_lt (Nat.lt_of_lt_of_le (Heap.lt_size q) hp))];exact n
 there:=fun b u q _=>⟨u,k b u q⟩
 tups:=fun b xs q=>by rw [aP (aL q hn)];exact q
 frzs:=fun b u xs q=>by rw [aP (aL q hn)];exact q
 tbls:=fun b ps q=>⟨#[],by rw [aP (aL q hn),q];simp⟩
theorem Un.write (mu:Mut (H x)) (he:e=x\/H e=some (.own x)) (k:∀b u,b≠e->h.get? b=some u->h'.get? b=some u) (heo:∃u,h'.get? e=some u):Un fs ex H (upd H x o) h h':=by
 have hx:∀b,H b=none->b≠x:=fun b n z=>by subst z;rw [n] at mu;exact mu
 have hb:∀b,H b=none->b≠e:=fun b n z=>by
  subst z
  rcases he with r|r
  ·exact hx b n r
  ·rw [n] at r;cases r
 have hm:∀b u,H b=some u->¬ Mut (some u)->b≠x:=fun b u q nm z=>by subst z;rw [q] at mu;exact nm mu
 refine⟨fun b u q n _ _=>k b u (hb b n) q,fun b u q n _ _=>⟨u.slots,k b u (hb b n) q⟩,fun b u q n _=>by rw [aP (hx b n)];exact n,fun b u q _=>?_,
  fun b xs q=>by rw [aP (hm b _ q fun z=>z)];exact q,fun b u xs q=>by rw [aP (hm b _ q fun z=>z)];exact q,fun b ps q=>⟨#[],by rw [aP (hm b _ q fun z=>z),q];simp⟩⟩
 by_cases hbe:b=e
 ·subst hbe;exact heo
 ·exact⟨u,k b u hbe q⟩
end
def trk (h:Heap) (H:Hp):List Addr:=(List.range h.objs.size).filter fun a=>(H a).isSome
def qL (h:Heap) (H:Hp):Heap:=PySem.W.hideAll h (trk h H)
theorem xT (h:Heap) (H:Hp):(qL h H).objs.size=h.objs.size:=PySem.W.hideAll_size _ _
theorem AaG {h:Heap} {H:Hp} {b:Addr} {o:Obj} (e:h.get? b=some o) (n:H b=none):(qL h H).get? b=some o:=
 PySem.W.hideAll_get _ e fun hm=>by
  have q:(H b).isSome=true:=(List.mem_filter.mp hm).2
  rw [n] at q;simp at q
theorem of_hidT {h:Heap} {H:Hp} {b:Addr} {o:Obj} (e:(qL h H).get? b=some o):h.get? b=some o/\H b=none:=by
 have e':h.get? b=some o:=PySem.W.of_hideAll (trk h H) e
 refine⟨e',?_⟩
 cases q:H b with
 | none=>rfl
 | some x=>
  have hm:b ∈ trk h H:=List.mem_filter.mpr ⟨List.mem_range.mpr (Heap.lt_size e'),by simp [q]⟩
  have z:(qL h H).get? b=none:=PySem.W.hideAll_none (trk h H) hm
  rw [z] at e;cases e
def lK (g h:Heap) (L:Addr):List (Addr × Obj):=(List.range h.objs.size).filterMap fun a=>if a=L\/(g.get? a).isSome=true then none else(h.get? a).map fun o=>(a,o)
theorem kO {g h:Heap} {L a:Addr} {o:Obj} (h1:a≠L) (h2:g.get? a=none) (h3:h.get? a=some o):(a,o) ∈ lK g h L:=
 List.mem_filterMap.mpr ⟨a,List.mem_range.mpr (Heap.lt_size h3),by simp [h1,h2,h3]⟩
theorem mO {g h:Heap} {L:Addr} {p:Addr × Obj} (hp:p ∈ lK g h L):p.1≠L/\g.get? p.1=none/\h.get? p.1=some p.2:=by
 obtain⟨b,_,e⟩:=List.mem_filterMap.mp hp
 split at e
 ·cases e
 ·rename_i hn
  cases q:h.get? b with
  | none=>rw [q] at e;simp at e
  | some u=>
   rw [q] at e
   simp only [Option.map_some,Option.some.injEq] at e
   subst e
   refine⟨fun z=>hn (.inl z),?_,q⟩
   show g.get? b=none
   cases r:g.get? b with
   | none=>rfl
   | some v=>exact(hn (.inr (by simp [r]))).elim
theorem sM {g h:Heap} {L:Addr}:News g L h (lK g h L):=fun p hp=>let ⟨a,b,c⟩:=mO hp;⟨c,a,b⟩
structure Mod (K:PySem.W.Frag) (mg:Str->Option Value) (base:Heap):Prop where
 kin:K.In base
 glob:base.Ns mainGlobals mg
 blt:∃mb,base.Ns builtinsNs mb/\∀x:Str,x≠"__name__"->mb x=bootBuiltins x
 nolimit:base.NoLimit
structure Cx where
 prog:Program
 w:World
 K:PySem.W.Frag
 mg:Str->Option Value
 base:Heap
 A:Around
 N:List Str
 s₀:Shared
 H₀:Hp
 env:Env
 outer:List Env
 stack:List Env
 ex:List Addr
 fn:Str->Bool
 calm:Bool
 pn:List (Addr × Obj)
 xe:Value->Shared->Prop
def frs (l:List Env):List Addr:=l.filterMap (·.frame)
abbrev Cx.fs (X:Cx):List Addr:=frs X.outer
def Vis (sc:Scope) (x:Str):Prop:=sc.names.lookup x=some .local\/sc.names.lookup x=some .cell\/sc.names.lookup x=some .free
def Loc (sc:Scope) (x:Str):Prop:=sc.names.lookup x=some .local\/sc.names.lookup x=some .cell
def Look (env:Env) (h:Heap) (m:Str->Option Value) (x:Str) (u:Value):Prop:=
 (env.kindOf x=some .local/\m x=some u)\/((env.kindOf x=some .cell\/env.kindOf x=some .free)/\∃c,env.cells.lookup x=some c/\h.IsCell c (some u))
structure Cx.Ok (X:Cx):Prop where
 mod:Mod X.K X.mg X.base
 kind:X.env.scope.kind=.function
 glob:X.env.globals=mainGlobals
 blt:X.env.builtins=builtinsNs
 above:X.s₀.heap.objs.size<=X.env.locals
 inj:∀x y c,X.env.cells.lookup x=some c->X.env.cells.lookup y=some c->x=y
 has:∀x,(X.env.kindOf x=some .cell\/X.env.kindOf x=some .free)->∃c,X.env.cells.lookup x=some c
 cab:∀x c,X.fn x=true->X.env.cells.lookup x=some c->X.s₀.heap.objs.size<=c
 hd:X.calm=true->X.A.handled=none
 frames:X.A.frames=some X.stack
 stk:X.stack=X.outer\/(X.stack=X.env::X.outer/\X.env.frame=some X.env.locals)
 exf:∀b ∈ X.ex,b≠X.env.locals/\∀x c,X.env.cells.lookup x=some c->c≠b
 bs:∀b o,X.base.get? b=some o->X.s₀.heap.get? b=some o/\X.H₀ b=none
 bsz:X.base.objs.size<=X.s₀.heap.objs.size
 noex:∀b o,X.base.get? b=some o->b ∉ X.ex
 exfs:∀b ∈ X.ex,b ∉ X.fs
 funs:X.s₀.heap.FunFrames X.base X.outer
 frf:∀b ∈ X.fs,X.H₀ b=none
structure Inv (X:Cx) (pins:List (Addr × Obj)) (σ:List (Option V)) (H:Hp) (s:Shared):Prop where
 ok:X.Ok
 os:s.os=X.s₀.os
 bare:AllBare s.gens
 base:Un X.fs X.ex X.H₀ H X.s₀.heap s.heap
 loc:∃m,s.heap.Ns X.env.locals m/\∀(i:Nat) (x:Str) (v:V),X.N[i]?=some x->σ[i]?=some (some v)->Vis X.env.scope x->∃u,cJ v u/\Look X.env s.heap m x u
 cell:∀x c,X.env.cells.lookup x=some c->∃v,s.heap.IsCell c v
 free:H X.env.locals=none
 freeC:∀x c,X.env.cells.lookup x=some c->H c=none
 pin:∀p ∈ X.pn++pins,s.heap.get? p.1=some p.2/\H p.1=none/\p.1≠X.env.locals/\p.1 ∉ X.fs/\∀v,p.2.data≠.cell v
 hok:HOk X.prog X.w H s.heap
 len:σ.length=X.N.length
section
variable {X:Cx} {pins:List (Addr × Obj)} {σ:List (Option V)} {H H':Hp} {s:Shared} {h':Heap}
theorem Cx.Ok.nofr (ok:X.Ok) {b:Addr} {o:Obj} (e:X.base.get? b=some o):b ∉ X.fs:=fun hb=>by
 have:=(ok.funs.mem hb).1
 rw [e] at this;cases this
theorem Inv.bs (I:Inv X pins σ H s):∀b o,X.base.get? b=some o->s.heap.get? b=some o/\H b=none:=fun b o e=>
 ⟨I.base.keep b o (I.ok.bs b o e).1 (I.ok.bs b o e).2 (I.ok.nofr e) (I.ok.noex b o e),I.base.free b o (I.ok.bs b o e).1 (I.ok.bs b o e).2 (I.ok.noex b o e)⟩
theorem Inv.bk (I:Inv X pins σ H s):∀b o,X.base.get? b=some o->s.heap.get? b=some o:=fun b o e=>(I.bs b o e).1
theorem Inv.mod (I:Inv X pins σ H s):Mod X.K X.mg X.base:=I.ok.mod
theorem Inv.kIn (I:Inv X pins σ H s):X.K.In s.heap:=I.ok.mod.kin.keeps I.bk
theorem Inv.fr (I:Inv X pins σ H s):∃m,Fr X.base X.env.locals s.heap m:=
 let ⟨m,hn,_⟩:=I.loc
 ⟨m,hn,I.bk,Nat.le_trans I.ok.bsz I.ok.above⟩
theorem Inv.lt (I:Inv X pins σ H s):X.env.locals<s.heap.objs.size:=let ⟨_,hn,_⟩:=I.loc;hn.lt
theorem Inv.sz (I:Inv X pins σ H s):X.s₀.heap.objs.size<=s.heap.objs.size:=Nat.le_trans I.ok.above (Nat.le_of_lt I.lt)
theorem Inv.nofs (I:Inv X pins σ H s) {a:Addr} (h:s.heap.objs.size<=a):a ∉ X.fs:=fun hb=>by
 obtain⟨_,o,ho,_⟩:=I.ok.funs.mem hb
 exact absurd (Nat.lt_of_lt_of_le (Heap.lt_size ho) (Nat.le_trans I.sz h)) (Nat.lt_irrefl _)
theorem Inv.cne (I:Inv X pins σ H s):∀x c,X.env.cells.lookup x=some c->c≠X.env.locals:=fun x c e z=>by
 obtain⟨v,o,ho,hd⟩:=I.cell x c e
 obtain⟨m,⟨o',es,ep,ho',hd',_⟩,_⟩:=I.loc
 rw [z,ho'] at ho;cases ho;rw [hd'] at hd;cases hd
theorem Inv.funs (I:Inv X pins σ H s):s.heap.FunFrames X.base X.outer:=by
 have all:∀(l:List Env),(∀b ∈ frs l,b ∈ X.fs)->X.s₀.heap.FunFrames X.base l->s.heap.FunFrames X.base l:=by
  intro l
  induction l with
  | nil=>intro _ _;trivial
  | cons env r ih=>
   intro hs hl
   obtain⟨hk,⟨L,o,hf,hn,ho,hd⟩,hr⟩:=hl
   have hL:L ∈ X.fs:=hs L (by unfold frs;rw [List.filterMap_cons,hf];exact List.mem_cons_self)
   obtain⟨sl,e⟩:=I.base.slot L o ho (I.ok.frf L hL) hL fun z=>I.ok.exfs L z hL
   exact⟨hk,⟨L,_,hf,hn,e,hd⟩,ih (fun b hb=>hs b (by unfold frs;rw [List.filterMap_cons,hf];exact List.mem_cons_of_mem _ hb)) hr⟩
 exact all X.outer (fun _ hb=>hb) I.ok.funs
theorem Inv.stack (I:Inv X pins σ H s):s.heap.FunFrames X.base X.stack:=by
 rcases I.ok.stk with e|⟨e,hf⟩
 ·rw [e];exact I.funs
 ·rw [e]
  obtain⟨m,hn,_⟩:=I.loc
  refine .cons (by rw [I.ok.kind];decide) hf hn ?_ I.funs
  exact Heap.get?_none_of_le (Nat.le_trans I.ok.bsz I.ok.above)
theorem Inv.stkSub (I:Inv X pins σ H s):∀b ∈ frs X.stack,b ∈ X.env.locals::X.fs:=fun b hb=>by
 rcases I.ok.stk with e|⟨e,hf⟩
 ·rw [e] at hb;exact List.mem_cons_of_mem _ hb
 ·rw [e] at hb
  unfold frs at hb
  rw [List.filterMap_cons,hf] at hb
  exact hb
theorem Inv.stkFree (I:Inv X pins σ H s):∀b ∈ frs X.stack,H b=none:=fun b hb=>by
 rcases List.mem_cons.mp (I.stkSub b hb) with e|hb
 ·rw [e];exact I.free
 ·obtain⟨_,o,ho,_⟩:=I.ok.funs.mem hb
  exact I.base.free b o ho (I.ok.frf b hb) fun z=>I.ok.exfs b z hb
theorem Inv.step {g':Array GenState} {t':Nat} {d':Drawn} {ch:List Addr} (I:Inv X pins σ H s)
  (hch:∀b ∈ ch,(b ∈ X.ex\/X.s₀.heap.objs.size<=b)/\b≠X.env.locals/\(∀x c,X.env.cells.lookup x=some c->c≠b)/\∀p ∈ X.pn++pins,p.1≠b)
  (keep:∀b o,b≠X.env.locals->b ∉ X.fs->b ∉ ch->s.heap.get? b=some o->H b=none->h'.get? b=some o)
  (slot:∀b o,b≠X.env.locals->b ∈ X.fs->b ∉ ch->s.heap.get? b=some o->H b=none->∃sl,h'.get? b=some { o with slots:=sl }) (free:∀b o,b ∉ ch->s.heap.get? b=some o->H b=none->H' b=none)
  (there:∀b o,b ∉ ch->s.heap.get? b=some o->∃o',h'.get? b=some o')
  (tups:∀b xs,H b=some (.tup xs)->H' b=some (.tup xs)) (frzs:∀b o u,H b=some (.frz o u)->H' b=some (.frz o u)) (tbls:∀b ps,H b=some (.tbl ps)->∃more,H' b=some (.tbl (ps++more)))
  (ns:∀m,s.heap.Ns X.env.locals m->h'.Ns X.env.locals m) (hok:HOk X.prog X.w H' h') (hg:AllBare g'):
  Inv X pins σ H' { s with heap:=h',gens:=g',drawn:=d',toks:=t' }:=by
 have neL:∀b o,X.s₀.heap.get? b=some o->b≠X.env.locals:=fun b o e=>Nat.ne_of_lt (Nat.lt_of_lt_of_le (Heap.lt_size e) I.ok.above)
 have neC:∀b o,X.s₀.heap.get? b=some o->b ∉ X.ex->b ∉ ch:=fun b o e hx hb=>by
  rcases (hch b hb).1 with z|z
  ·exact hx z
  ·exact absurd (Nat.lt_of_lt_of_le (Heap.lt_size e) z) (Nat.lt_irrefl _)
 have cellK:∀x c,X.env.cells.lookup x=some c->∀v,s.heap.IsCell c v->h'.IsCell c v:=fun x c e v ⟨o,ho,hd⟩=>by
  have nch:c ∉ ch:=fun z=>(hch c z).2.2.1 x c e rfl
  by_cases hc:c ∈ X.fs
  ·obtain⟨sl,q⟩:=slot c o (I.cne x c e) hc nch ho (I.freeC x c e)
   exact⟨_,q,hd⟩
  ·exact⟨o,keep c o (I.cne x c e) hc nch ho (I.freeC x c e),hd⟩
 refine⟨I.ok,I.os,hg,⟨fun b o e n hb hx=>?_,fun b o e n hb hx=>?_,fun b o e n hx=>?_,fun b o e hx=>?_,fun b xs e=>tups b xs (I.base.tups b xs e),fun b o xs e=>frzs b o xs (I.base.frzs b o xs e),fun b ps e=>?_⟩,?_,fun x c e=>?_,?_,fun x c e=>?_,fun p hp=>?_,hok,I.len⟩
 ·exact keep b o (neL b o e) hb (neC b o e hx) (I.base.keep b o e n hb hx) (I.base.free b o e n hx)
 ·obtain⟨sl,e1⟩:=I.base.slot b o e n hb hx
  obtain⟨sl',e2⟩:=slot b _ (neL b o e) hb (neC b o e hx) e1 (I.base.free b o e n hx)
  exact⟨sl',e2⟩
 ·obtain⟨o',e1⟩:=I.base.there b o e hx
  exact free b o' (neC b o e hx) e1 (I.base.free b o e n hx)
 ·obtain⟨o',e1⟩:=I.base.there b o e hx
  exact there b o' (neC b o e hx) e1
 ·obtain⟨m1,e1⟩:=I.base.tbls b ps e
  obtain⟨m2,e2⟩:=tbls b _ e1
  exact⟨m1++m2,by rw [e2,Array.append_assoc]⟩
 ·obtain⟨m,hn,hl⟩:=I.loc
  refine⟨m,ns m hn,fun i x v e1 e2 e3=>?_⟩
  obtain⟨u,r,l⟩:=hl i x v e1 e2 e3
  refine⟨u,r,?_⟩
  rcases l with l|⟨k,c,e,z⟩
  ·exact .inl l
  ·exact .inr ⟨k,c,e,cellK x c e _ z⟩
 ·obtain⟨v,z⟩:=I.cell x c e
  exact⟨v,cellK x c e v z⟩
 ·obtain⟨m,⟨o,_,_,ho,_⟩,_⟩:=I.loc
  exact free _ o (fun z=>(hch _ z).2.1 rfl) ho I.free
 ·obtain⟨v,o,ho,hd⟩:=I.cell x c e
  exact free c o (fun z=>(hch c z).2.2.1 x c e rfl) ho (I.freeC x c e)
 ·obtain⟨e,n,ne,nf,d⟩:=I.pin p hp
  have nch:p.1 ∉ ch:=fun z=>(hch p.1 z).2.2.2 p hp rfl
  exact⟨keep p.1 p.2 ne nf nch e n,free p.1 p.2 nch e n,ne,nf,d⟩
theorem Inv.un {t':Nat} (I:Inv X pins σ H s) (u:Un X.fs [] H H' s.heap h') (hok:HOk X.prog X.w H' h'):Inv X pins σ H' { s with heap:=h',toks:=t' }:=by
 obtain⟨m,⟨o,es,ep,ho,r⟩,_⟩:=id I.loc
 obtain⟨sl,hL⟩:=u.any ho I.free (by simp)
 exact I.step (g':=s.gens) (d':=s.drawn) (ch:=[]) (fun _ z=>nomatch z) (fun b o _ hb _ e n=>u.keep b o e n hb (by simp)) (fun b o _ hb _ e n=>u.slot b o e n hb (by simp)) (fun b o _ e n=>u.free b o e n (by simp)) (fun b o _ e=>u.there b o e (by simp)) u.tups u.frzs u.tbls (fun m' hm=>by
  obtain⟨o',es',ep',ho',r'⟩:=hm
  rw [ho] at ho';cases ho'
  exact⟨_,es',ep',hL,r'⟩) hok I.bare
theorem Inv.call {g':Array GenState} {t':Nat} {d':Drawn} {ch:List Addr} (I:Inv X pins σ H s) (u:Un (frs X.stack) ch H H' s.heap h') (hok:HOk X.prog X.w H' h') (hg:AllBare g')
  (hch:∀b ∈ ch,(b ∈ X.ex\/X.s₀.heap.objs.size<=b)/\b≠X.env.locals/\(∀x c,X.env.cells.lookup x=some c->c≠b)/\∀p ∈ X.pn++pins,p.1≠b):
  Inv X pins σ H' { s with heap:=h',gens:=g',drawn:=d',toks:=t' }:=by
 obtain⟨m,⟨o,es,ep,ho,r⟩,_⟩:=id I.loc
 obtain⟨sl,hL⟩:=u.any ho I.free fun z=>(hch _ z).2.1 rfl
 exact I.step (ch:=ch) hch (fun b o hL hb hc e n=>u.keep b o e n (fun z=>(List.mem_cons.mp (I.stkSub b z)).elim hL hb) hc) (fun b o _ _ hc e n=>u.any e n hc) (fun b o hc e n=>u.free b o e n hc) (fun b o hc e=>u.there b o e hc) u.tups u.frzs u.tbls (fun m' hm=>by
  obtain⟨o',es',ep',ho',r'⟩:=hm
  rw [ho] at ho';cases ho'
  exact⟨_,es',ep',hL,r'⟩) hok hg
theorem Inv.turned {t':Nat} {it:Addr} (I:Inv X pins σ H s) (k:∀b o,b≠it->s.heap.get? b=some o->h'.get? b=some o) (hn:H it=none) (hL:it≠X.env.locals)
  (h1:it ∈ X.ex\/X.s₀.heap.objs.size<=it) (h2:∀x c,X.env.cells.lookup x=some c->c≠it) (h3:∀p ∈ X.pn++pins,p.1≠it):Inv X pins σ H { s with heap:=h',toks:=t' }:=by
 have nit:∀b u,H b=some u->b≠it:=fun b u e z=>by rw [z,hn] at e;cases e
 refine I.step (g':=s.gens) (d':=s.drawn) (ch:=[it]) (fun b hb=>?_) (fun b o _ _ hc e _=>k b o (fun z=>hc (by simp [z])) e) (fun b o _ _ hc e _=>⟨o.slots,k b o (fun z=>hc (by simp [z])) e⟩) (fun _ _ _ _ n=>n)
  (fun b o hc e=>⟨o,k b o (fun z=>hc (by simp [z])) e⟩) (fun _ _ e=>e) (fun _ _ _ e=>e) (fun b ps e=>⟨#[],by rw [e];simp⟩) (fun m hm=>?_) (fun b u e=>?_) I.bare
 ·have e:b=it:=by simpa using hb
  subst e
  exact⟨h1,hL,h2,h3⟩
 ·obtain⟨o,es,ep,ho,r⟩:=hm
  exact⟨o,es,ep,k _ o (Ne.symm hL) ho,r⟩
 ·refine(I.hok b u e).stay (fun c v hc q=>k c v ?_ q) (fun _ q=>q) fun _ _ q=>q
  rcases hc with z|z
  ·rw [z];exact nit b u e
  ·exact nit c _ z
theorem Inv.tok (I:Inv X pins σ H s) (t:Nat):Inv X pins σ H { s with toks:=t }:=I.un (h':=s.heap) (t':=t) Un.refl I.hok
theorem Inv.kept {t':Nat} (I:Inv X pins σ H s) (k:∀b u,s.heap.get? b=some u->h'.get? b=some u):Inv X pins σ H { s with heap:=h',toks:=t' }:=I.un (Un.kept k) (I.hok.kept k)
theorem Inv.laid {a:Addr} {o:HO} {t':Nat} (I:Inv X pins σ H s) (k:∀b u,s.heap.get? b=some u->h'.get? b=some u) (hp:s.heap.objs.size<=a) (new:cP X.prog X.w (upd H a o) h' a o):
  Inv X pins σ (upd H a o) { s with heap:=h',toks:=t' }:=I.un (Un.laid k hp (I.hok.fresh hp)) (I.hok.laid k hp new)
theorem Inv.write {x e:Addr} {o:HO} {t':Nat} (I:Inv X pins σ H s) (mu:Mut (H x)) (he:e=x\/H e=some (.own x)) (k:∀b u,b≠e->s.heap.get? b=some u->h'.get? b=some u) (heo:∃u,h'.get? e=some u)
  (new:cP X.prog X.w (upd H x o) h' x o):Inv X pins σ (upd H x o) { s with heap:=h',toks:=t' }:=I.un (Un.write mu he k heo) (I.hok.write mu he k heo new)
theorem Inv.weak {σ':List (Option V)} (I:Inv X pins σ H s) (hl:σ'.length=σ.length) (w:∀(i:Nat) v,σ'[i]?=some (some v)->σ[i]?=some (some v)):Inv X pins σ' H s:=
 ⟨I.ok,I.os,I.bare,I.base,let ⟨m,hn,hl'⟩:=I.loc;⟨m,hn,fun i x v e1 e2 e3=>hl' i x v e1 (w i v e2) e3⟩,I.cell,I.free,I.freeC,I.pin,I.hok,hl.trans I.len⟩
theorem Inv.pins_of {pins':List (Addr × Obj)} (I:Inv X pins σ H s) (h:∀p ∈ pins',s.heap.get? p.1=some p.2/\H p.1=none/\p.1≠X.env.locals/\p.1 ∉ X.fs/\∀v,p.2.data≠.cell v):Inv X pins' σ H s:=
 ⟨I.ok,I.os,I.bare,I.base,I.loc,I.cell,I.free,I.freeC,fun p hp=>(List.mem_append.mp hp).elim (fun z=>I.pin p (List.mem_append_left _ z)) (h p),I.hok,I.len⟩
theorem mQ {N:List Str} (hN:N.Nodup) {i j:Nat} {x:Str} (a:N[i]?=some x) (b:N[j]?=some x):i=j:=by
 obtain⟨h1,e1⟩:=List.getElem?_eq_some_iff.mp a
 obtain⟨h2,e2⟩:=List.getElem?_eq_some_iff.mp b
 exact(List.getElem_inj hN).mp (e1.trans e2.symm)
theorem oA {M:Model} {A:Around} {E:Value->Shared->Prop} {i:Nat} {x:Str} {v:V} {u:Value} {Q:Unit->Shared->Prop} (I:Inv X pins σ H s) (hN:X.N.Nodup) (hi:X.N[i]?=some x) (hx:Loc X.env.scope x) (r:cJ v u)
  (h:∀s',Inv X pins (σ.set i (some v)) H s'->(∃a,Heap.SameBut a s.heap s'.heap/\(a=X.env.locals\/X.env.cells.lookup x=some a))->Q () s') (hf:X.fn x=true\/X.env.scope.names.lookup x=some .local:=by first|exact .inl rfl|exact .inr rfl|assumption):wpAny M A (storeName X.env x u) Q E s:=by
 obtain⟨m,hn,hl⟩:=id I.loc
 have hcls:(X.env.scope.kind == .class || (X.env.scope.kind == .module && X.env.locals != X.env.globals))=false:=by rw [I.ok.kind];rfl
 have hiσ:i<σ.length:=by rw [I.len];exact(List.getElem?_eq_some_iff.mp hi).1
 have cne:=I.cne
 have tracked:∀{a:Addr} {h':Heap},(∃o,s.heap.get? a=some o/\H a=none)->Heap.SameBut a s.heap h'->HOk X.prog X.w H h':=fun {a h'} ha hs b ob e=>by
  obtain⟨_,_,hfree⟩:=ha
  refine(I.hok b ob e).stay (fun c w' hc q=>(hs.2 c ?_).trans q) (fun _ q=>q) fun _ _ q=>q
  rintro rfl
  rcases hc with rfl|hc
  ·rw [hfree] at e;cases e
  ·rw [hfree] at hc;cases hc
 rcases hx with hk|hk
 ·refine wpAny_storeName_local hk hn (fun h' hn' hs=>?_) hcls
  obtain⟨oL,_,_,hoL,_⟩:=id hn
  refine h _ ⟨I.ok,I.os,I.bare,⟨fun b o e n hb hx=>?_,fun b o e n hb hx=>?_,I.base.free,fun b o e hx=>?_,I.base.tups,I.base.frzs,I.base.tbls⟩,⟨_,hn',fun j y v' e1 e2 e3=>?_⟩,fun y c e=>?_,I.free,I.freeC,fun p hp=>?_,tracked ⟨oL,hoL,I.free⟩ hs,by simpa using I.len⟩ ⟨_,hs,.inl rfl⟩
  ·exact(hs.2 b (Nat.ne_of_lt (Nat.lt_of_lt_of_le (Heap.lt_size e) I.ok.above))).trans (I.base.keep b o e n hb hx)
  ·obtain⟨sl,e1⟩:=I.base.slot b o e n hb hx
   exact⟨sl,(hs.2 b (Nat.ne_of_lt (Nat.lt_of_lt_of_le (Heap.lt_size e) I.ok.above))).trans e1⟩
  ·obtain⟨o',e1⟩:=I.base.there b o e hx
   exact⟨o',(hs.2 b (Nat.ne_of_lt (Nat.lt_of_lt_of_le (Heap.lt_size e) I.ok.above))).trans e1⟩
  ·by_cases hj:j=i
   ·subst hj
    rw [hi] at e1;cases e1
    rw [List.getElem?_set_self hiσ] at e2
    cases e2
    exact⟨u,r,.inl ⟨hk,by simp⟩⟩
   ·rw [List.getElem?_set_ne (Ne.symm hj)] at e2
    obtain⟨u',r',q⟩:=hl j y v' e1 e2 e3
    refine⟨u',r',?_⟩
    rcases q with ⟨k,e⟩|⟨k,c,e,z⟩
    ·refine .inl ⟨k,?_⟩
     have:y≠x:=fun e=>hj (mQ hN e1 (e ▸ hi))
     simp [this,e]
    ·exact .inr ⟨k,c,e,z.sameBut hs (cne y c e)⟩
  ·obtain⟨w',z⟩:=I.cell y c e
   exact⟨w',z.sameBut hs (cne y c e)⟩
  ·obtain⟨e,n,ne,nf,d⟩:=I.pin p hp
   exact⟨(hs.2 p.1 ne).trans e,n,ne,nf,d⟩
 ·have hfn:X.fn x=true:=by
   rcases hf with z|z
   ·exact z
   ·rw [z] at hk;cases hk
  obtain⟨c,hc⟩:=I.ok.has x (.inl hk)
  obtain⟨w',z⟩:=I.cell x c hc
  refine wpAny_storeName_cell I.ok.kind hk hc z (fun h' hc' hs=>?_)
  obtain⟨oc,hoc,hocd⟩:=id z
  refine h { s with heap:=h' } ⟨I.ok,I.os,I.bare,⟨fun b o e n hb hx=>?_,fun b o e n hb hx=>?_,I.base.free,fun b o e hx=>?_,I.base.tups,I.base.frzs,I.base.tbls⟩,⟨m,hn.sameBut hs (Ne.symm (cne x c hc)),fun j y v' e1 e2 e3=>?_⟩,fun y c' e=>?_,I.free,I.freeC,fun p hp=>?_,tracked ⟨oc,hoc,I.freeC x c hc⟩ hs,by simpa using I.len⟩ ⟨c,hs,.inr hc⟩
  ·exact(hs.2 b (Nat.ne_of_lt (Nat.lt_of_lt_of_le (Heap.lt_size e) (I.ok.cab x c hfn hc)))).trans (I.base.keep b o e n hb hx)
  ·obtain⟨sl,e1⟩:=I.base.slot b o e n hb hx
   exact⟨sl,(hs.2 b (Nat.ne_of_lt (Nat.lt_of_lt_of_le (Heap.lt_size e) (I.ok.cab x c hfn hc)))).trans e1⟩
  ·obtain⟨o',e1⟩:=I.base.there b o e hx
   exact⟨o',(hs.2 b (Nat.ne_of_lt (Nat.lt_of_lt_of_le (Heap.lt_size e) (I.ok.cab x c hfn hc)))).trans e1⟩
  ·by_cases hj:j=i
   ·subst hj
    rw [hi] at e1;cases e1
    rw [List.getElem?_set_self hiσ] at e2
    cases e2
    exact⟨u,r,.inr ⟨.inl hk,c,hc,hc'⟩⟩
   ·rw [List.getElem?_set_ne (Ne.symm hj)] at e2
    obtain⟨u',r',q⟩:=hl j y v' e1 e2 e3
    refine⟨u',r',?_⟩
    rcases q with q|⟨k,c',e,z'⟩
    ·exact .inl q
    ·refine .inr ⟨k,c',e,z'.sameBut hs ?_⟩
     rintro rfl
     exact hj (mQ hN e1 (I.ok.inj _ _ _ e hc ▸ hi))
  ·by_cases hcc:c'=c
   ·subst hcc;exact⟨_,hc'⟩
   ·obtain⟨w2,z2⟩:=I.cell y c' e
    exact⟨w2,z2.sameBut hs hcc⟩
  ·obtain⟨e,n,ne,nf,d⟩:=I.pin p hp
   refine⟨(hs.2 p.1 ?_).trans e,n,ne,nf,d⟩
   intro q
   rw [q,hoc] at e
   have q':oc=p.2:=Option.some.inj e
   exact d w' (by rw [<- q'];exact hocd)
theorem lR {M:Model} {A:Around} {E:Value->Shared->Prop} {i:Nat} {x:Str} {v:V} {u:Value} {Q:Unit->Shared->Prop} (I:Inv X pins σ H s) (hN:X.N.Nodup) (hi:X.N[i]?=some x) (hx:Loc X.env.scope x) (r:cJ v u)
  (h:∀s',Inv X pins (σ.set i (some v)) H s'->Q () s') (hf:X.fn x=true\/X.env.scope.names.lookup x=some .local:=by first|exact .inl rfl|exact .inr rfl|assumption):wpAny M A (storeName X.env x u) Q E s:=
 oA I hN hi hx r (fun s' I' _=>h s' I') hf
theorem Inv.call' {s':Shared} {ch:List Addr} (I:Inv X pins σ H s) (ho:s'.os=s.os) (u:Un (frs X.stack) ch H H' s.heap s'.heap) (hok:HOk X.prog X.w H' s'.heap) (hg:AllBare s'.gens)
  (hch:∀b ∈ ch,(b ∈ X.ex\/X.s₀.heap.objs.size<=b)/\b≠X.env.locals/\(∀x c,X.env.cells.lookup x=some c->c≠b)/\∀p ∈ X.pn++pins,p.1≠b):Inv X pins σ H' s':=by
 obtain⟨h',g',d',t',o'⟩:=s'
 have e:o'=s.os:=ho
 subst e
 exact I.call (g':=g') (t':=t') (d':=d') u hok hg hch
end
abbrev XK:=Value->Option Addr->Hp->Prop
abbrev St:=List (Option V)
abbrev VK:=V->Hp->Prop
abbrev TE:=St->Hp->VK->Prop
abbrev TT:=St->Hp->(Bool->Hp->Prop)->Prop
abbrev TA:=St->Hp->(List V->Hp->Prop)->Prop
structure jV where
 nx:St->Hp->Prop
 rt:VK
 bk:St->Hp->Prop:=fun _ _=>False
 ct:St->Hp->Prop:=fun _ _=>False
abbrev TS:=jV->St->Hp->Prop
def EP (X:Cx) (pins:List (Addr × Obj)) (σ:St) (Q:VK) (u:Value) (s':Shared):Prop:=∃v H',Inv X pins σ H' s'/\cJ v u/\Q v H'
def TP (X:Cx) (pins:List (Addr × Obj)) (σ:St) (Q:Bool->Hp->Prop) (b:Bool) (s':Shared):Prop:=∃H',Inv X pins σ H' s'/\Q b H'
def AP (X:Cx) (pins:List (Addr × Obj)) (σ:St) (Q:List V->Hp->Prop) (us:List Value) (s':Shared):Prop:=∃vs H',Inv X pins σ H' s'/\bY vs us/\Q vs H'
def SP (X:Cx) (pins:List (Addr × Obj)) (D:jV) (f:Flow) (s':Shared):Prop:=
 match f with
 | .next=>∃ σ' H',Inv X pins σ' H' s'/\D.nx σ' H'
 | .brk=>∃ σ' H',Inv X pins σ' H' s'/\D.bk σ' H'
 | .cont=>∃ σ' H',Inv X pins σ' H' s'/\D.ct σ' H'
 | .ret u=>∃v σ' H',Inv X pins σ' H' s'/\cJ v u/\D.rt v H'
def PE (X:Cx) (e:Expr) (t:TE):Prop:=
 ∀ ⦃pins:List (Addr × Obj)⦄ (s:Shared) (σ:St) (H:Hp) (Q:VK),Inv X pins σ H s->t σ H Q->wpAny (model X.prog X.w) X.A (eval e X.env) (EP X pins σ Q) X.xe s
def PT (X:Cx) (e:Expr) (t:TT):Prop:=
 ∀ ⦃pins:List (Addr × Obj)⦄ (s:Shared) (σ:St) (H:Hp) (Q:Bool->Hp->Prop),Inv X pins σ H s->t σ H Q->wpAny (model X.prog X.w) X.A (isTrue e X.env (eval e X.env)) (TP X pins σ Q) X.xe s
def PW (X:Cx) (e:Expr) (t:TT):Prop:=
 ∀ ⦃whole:Sem Value⦄ (pins:List (Addr × Obj)) (s:Shared) (σ:St) (H:Hp) (Q:Bool->Hp->Prop),Inv X pins σ H s->t σ H Q->wpAny (model X.prog X.w) X.A (isTrue e X.env whole) (TP X pins σ Q) X.xe s
theorem PW.pt {X:Cx} {e:Expr} {t:TT} (h:PW X e t):PT X e t:=@h _
def PA (X:Cx) (es:List Expr) (t:TA):Prop:=
 ∀ ⦃pos:Pos⦄ (pins:List (Addr × Obj)) (s:Shared) (σ:St) (H:Hp) (Q:List V->Hp->Prop),Inv X pins σ H s->t σ H Q->wpAny (model X.prog X.w) X.A (spliced (backTo pos (starEach es X.env))) (AP X pins σ Q) X.xe s
def PS (X:Cx) (st:Stmt) (t:TS):Prop:=
 ∀ ⦃pins:List (Addr × Obj)⦄ (s:Shared) (σ:St) (H:Hp) (D:jV),Inv X pins σ H s->t D σ H->wpAny (model X.prog X.w) X.A (exec st X.env) (SP X pins D) X.xe s
def PSs (X:Cx) (st:List Stmt) (t:TS):Prop:=
 ∀ ⦃pins:List (Addr × Obj)⦄ (s:Shared) (σ:St) (H:Hp) (D:jV),Inv X pins σ H s->t D σ H->wpAny (model X.prog X.w) X.A (execs st X.env) (SP X pins D) X.xe s
theorem thn {α:Type} {t:Sem α} {Q Q':α->Shared->Prop} {M:Model} {A:Around} {E:Value->Shared->Prop} {s:Shared} (h:wpAny M A t Q E s) (hQ:∀a s,Q a s->Q' a s):wpAny M A t Q' E s:=wpAny_mono h hQ fun _ _ x=>x
section
variable {X:Cx}
def hJ (i:Nat):TE:=fun σ H Q=>∃v,σ[i]?=some (some v)/\Q v H
def tC (v:V):TE:=fun _ H Q=>Q v H
theorem pe_var {i:Nat} {x:Str} {pos:Pos} (hN:X.N[i]?=some x) (hv:Vis X.env.scope x) (hd:(x == ("__debug__":Str))=false:=by decide) (hcd:(x == ("__classdict__":Str))=false:=by decide):PE X (.Name x pos) (hJ i):=by
 intro pins s σ H Q I h
 obtain⟨v,e,h⟩:=h
 obtain⟨m,hn,hl⟩:=I.loc
 obtain⟨u,r,l⟩:=hl i x v hN e hv
 have fin:EP X pins σ Q u s:=⟨v,H,I,r,h⟩
 rcases l with ⟨hk,hm⟩|⟨hk,c,hc,hcell⟩
 ·exact wpAny_Name (wpAny_loadName_local I.ok.kind hk hn hm fin) hd
 ·rcases hk with hk|hk
  ·exact wpAny_Name (wpAny_loadName_cell I.ok.kind hk hc hcell fin) hd
  ·exact wpAny_Name (wpAny_loadName_free I.ok.kind hk hc hcell fin hcd) hd
theorem aC {i j pos}:PE X (.Constant (.int i) j pos) (tC (.int i)):=fun _ _ _ H _ I h=>wpAny_Constant_int ⟨.int i,H,I.tok _,⟨_,rfl⟩,h⟩
theorem hZ {b j pos}:PE X (.Constant (.bool b) j pos) (tC (.bl b)):=fun _ _ _ H _ I h=>Constant_bool ⟨.bl b,H,I,rfl,h⟩
theorem eU {j pos}:PE X (.Constant .none j pos) (tC .non):=fun _ _ _ H _ I h=>Constant_none ⟨.non,H,I,rfl,h⟩
theorem aF {x j pos}:PE X (.Constant (.str x) j pos) (tC (.str x)):=fun _ _ _ H _ I h=>Calls.Constant_str ⟨.str x,H,I.tok _,⟨_,rfl⟩,h⟩
def Gl (X:Cx) (x:Str):Prop:=X.env.kindOf x=some .globalImplicit
theorem gT {E:Value->Shared->Prop} {pins:List (Addr × Obj)} {s:Shared} {σ:St} {H:Hp} {x:Str} {u:Value} {pos:Pos} {Q:Value->Shared->Prop} (I:Inv X pins σ H s) (hg:Gl X x) (hm:X.mg x=some u) (h:Q u s)
  (hd:(x == ("__debug__":Str))=false:=by decide):wpAny (model X.prog X.w) X.A (eval (.Name x pos) X.env) Q E s:=
 Calls.Name_function_global I.ok.kind hg (Calls.loadGlobal_global (by rw [I.ok.glob];exact I.mod.glob.keeps I.bk) hm h) hd
theorem iC {E:Value->Shared->Prop} {pins:List (Addr × Obj)} {s:Shared} {σ:St} {H:Hp} {x:Str} {u:Value} {pos:Pos} {Q:Value->Shared->Prop} (I:Inv X pins σ H s) (hg:Gl X x) (hm:X.mg x=none) (hv:bootBuiltins x=some u) (h:Q u s)
  (hn:x≠"__name__":=by decide) (hd:(x == ("__debug__":Str))=false:=by decide):wpAny (model X.prog X.w) X.A (eval (.Name x pos) X.env) Q E s:=by
 obtain⟨mb,h1,h2⟩:=I.mod.blt
 exact Calls.Name_function_global I.ok.kind hg (Calls.loadGlobal_builtin (by rw [I.ok.glob];exact I.mod.glob.keeps I.bk) hm (by rw [I.ok.blt];exact h1.keeps I.bk) ((h2 x hn).trans hv) h) hd
theorem cO {x:Str} {v:V} {u:Value} {pos:Pos} (hg:Gl X x) (hm:X.mg x=some u) (r:cJ v u) (hd:(x == ("__debug__":Str))=false:=by decide):PE X (.Name x pos) (tC v):=
 fun _ _ _ H _ I h=>gT I hg hm ⟨v,H,I,r,h⟩ hd
theorem gS {x:Str} {v:V} {u:Value} {pos:Pos} (hg:Gl X x) (hm:X.mg x=none) (hv:bootBuiltins x=some u) (r:cJ v u) (hn:x≠"__name__":=by decide) (hd:(x == ("__debug__":Str))=false:=by decide):PE X (.Name x pos) (tC v):=
 fun _ _ _ H _ I h=>iC I hg hm hv ⟨v,H,I,r,h⟩ hn hd
variable {a b:Expr} {ta tb:TE} {pos:Pos}
def tB (t:TE):TT:=fun σ H Q=>t σ H fun x H1=>∃c,x=.bl c/\Q c H1
theorem dX {e:Expr} {t:TE} (h:PE X e t) (he:∀whole,isTrue e X.env whole=(do let v <- whole;standAt e.pos;holding [v] (truthy v)):=by intro _;rfl):PT X e (tB t):=by
 intro pins s σ H Q I hw
 refine isTrue_plain (thn (h s σ H _ I hw) fun v s1 ⟨x,H1,I1,r1,q1⟩=>?_) (he _)
 obtain⟨d,rfl,q⟩:=q1
 cases r1
 exact wpAny_truthy_bool ⟨H1,I1,q⟩
variable {tA tB':TT} {rest:List Expr}
def tAnd (t u:TT):TT:=fun σ H Q=>t σ H fun c H1=>if c=true then u σ H1 Q else Q false H1
def tOr (t u:TT):TT:=fun σ H Q=>t σ H fun c H1=>if c=true then Q true H1 else u σ H1 Q
def tNot (t:TT):TT:=fun σ H Q=>t σ H fun c H1=>Q (!c) H1
theorem iH (ha:PT X a tA):PW X (.BoolOp .And [a] pos) tA:=by
 intro wh pins s σ H Q I h
 refine isTrue_and (thn (ha s σ H Q I h) fun c s1 e=>?_)
 cases c with
 | true=>exact isTrue_and_nil e
 | false=>exact e
theorem eT (ha:PT X a tA):PW X (.BoolOp .Or [a] pos) tA:=by
 intro wh pins s σ H Q I h
 refine isTrue_or (thn (ha s σ H Q I h) fun c s1 e=>?_)
 cases c with
 | false=>exact isTrue_or_nil e
 | true=>exact e
theorem jY (ha:PT X a tA) (hb:PW X (.BoolOp .And (b::rest) pos) tB'):PW X (.BoolOp .And (a::b::rest) pos) (tAnd tA tB'):=by
 intro wh pins s σ H Q I h
 refine isTrue_and (thn (ha s σ H _ I h) fun c s1 ⟨H1,I1,q1⟩=>?_)
 cases c with
 | true=>exact hb pins s1 σ H1 Q I1 q1
 | false=>exact⟨H1,I1,q1⟩
theorem gE (ha:PT X a tA) (hb:PW X (.BoolOp .Or (b::rest) pos) tB'):PW X (.BoolOp .Or (a::b::rest) pos) (tOr tA tB'):=by
 intro wh pins s σ H Q I h
 refine isTrue_or (thn (ha s σ H _ I h) fun c s1 ⟨H1,I1,q1⟩=>?_)
 cases c with
 | true=>exact⟨H1,I1,q1⟩
 | false=>exact hb pins s1 σ H1 Q I1 q1
theorem dL (ha:PT X a tA):PT X (.UnaryOp .Not a pos) (tNot tA):=by
 intro pins s σ H Q I h
 exact isTrue_not (ha s σ H (fun c H1=>Q (!c) H1) I h)
def tAndV (ta tb:TE):TE:=fun σ H Q=>ta σ H fun x H1=>∃c,x=.bl c/\if c=true then tb σ H1 Q else Q (.bl false) H1
def tOrV (ta tb:TE):TE:=fun σ H Q=>ta σ H fun x H1=>∃c,x=.bl c/\if c=true then Q (.bl true) H1 else tb σ H1 Q
def tNotV (ta:TE):TE:=fun σ H Q=>ta σ H fun x H1=>∃c,x=.bl c/\Q (.bl (!c)) H1
theorem jZ {op} {t:TE} (h:PE X a t):PE X (.BoolOp op [a] pos) t:=fun pins s σ H Q I hw=>BoolOp_one (h s σ H Q I hw)
theorem mI (ha:PE X a ta) (hb:PE X (.BoolOp .And (b::rest) pos) tb):PE X (.BoolOp .And (a::b::rest) pos) (tAndV ta tb):=by
 intro pins s σ H Q I h
 refine BoolOp_and (thn (ha s σ H _ I h) fun v s1 ⟨x,H1,I1,r1,q1⟩=>?_)
 obtain⟨c,rfl,q1⟩:=q1
 cases r1
 refine wpAny_truthy_bool ?_
 cases c with
 | true=>exact hb s1 σ H1 Q I1 q1
 | false=>exact⟨.bl false,H1,I1,rfl,q1⟩
theorem pe_or (ha:PE X a ta) (hb:PE X (.BoolOp .Or (b::rest) pos) tb):PE X (.BoolOp .Or (a::b::rest) pos) (tOrV ta tb):=by
 intro pins s σ H Q I h
 refine BoolOp_or (thn (ha s σ H _ I h) fun v s1 ⟨x,H1,I1,r1,q1⟩=>?_)
 obtain⟨c,rfl,q1⟩:=q1
 cases r1
 refine wpAny_truthy_bool ?_
 cases c with
 | false=>exact hb s1 σ H1 Q I1 q1
 | true=>exact⟨.bl true,H1,I1,rfl,q1⟩
theorem yZ (ha:PE X a ta):PE X (.UnaryOp .Not a pos) (tNotV ta):=by
 intro pins s σ H Q I h
 refine UnaryOp_ (thn (ha s σ H _ I h) fun v s1 ⟨x,H1,I1,r1,q1⟩=>?_)
 obtain⟨c,rfl,q1⟩:=q1
 cases r1
 exact not_of (wpAny_truthy_bool ⟨.bl (!c),H1,I1,rfl,q1⟩)
def tIf (t:TT) (ta tb:TE):TE:=fun σ H Q=>t σ H fun c H1=>if c=true then ta σ H1 Q else tb σ H1 Q
theorem zA {c:Expr} (hc:PT X c tA) (ha:PE X a ta) (hb:PE X b tb):PE X (.IfExp c a b pos) (tIf tA ta tb):=by
 intro pins s σ H Q I h
 refine wpAny_IfExp (thn (hc s σ H _ I h) fun d s1 ⟨H1,I1,q1⟩=>?_)
 cases d with
 | true=>exact ha s1 σ H1 Q I1 q1
 | false=>exact hb s1 σ H1 Q I1 q1
end
def SqL (K:PySem.W.Frag) (H:Hp) (a:Addr) (xs:List V):Prop:=
 Rd H a (.lst xs) \/
  ∃(o:Obj) (its:Array Value) (n:Nat),K.lookup a=some o/\o.cls=.type "list"/\o.dict=none/\o.data=.seq its n/\its.size<=sizeLine/\bY xs its.toList
def SqT (K:PySem.W.Frag) (H:Hp) (a:Addr) (xs:List V):Prop:=
 Rd H a (.tup xs) \/
  ∃(o:Obj) (its:Array Value) (n:Nat),K.lookup a=some o/\o.cls=.type "tuple"/\o.data=.seq its n/\its.size<=sizeLine/\bY xs its.toList
def absV:Value->Option V
 | .none=>some .non
 | .bool b=>some (.bl b)
 | .int i _=>some (.int i)
 | .str x _=>some (.str x)
 | .bytes b _=>some (.byt b)
 | .float b _=>some (.flt b)
 | .ref a=>some (.ref a)
 | .type n=>some (.ty n)
 | _=>none
theorem cJ.abs {x:V} {u:Value} (r:cJ x u):absV u=some x:=by
 cases x with
 | non=>cases r;rfl
 | bl _=>cases r;rfl
 | int _=>obtain⟨t,rfl⟩:=r;rfl
 | str _=>obtain⟨t,rfl⟩:=r;rfl
 | byt _=>obtain⟨t,rfl⟩:=r;rfl
 | flt _=>obtain⟨t,rfl⟩:=r;rfl
 | ref _=>cases r;rfl
 | ty _=>cases r;rfl
theorem cJ.inj {x y:V} {u:Value} (r:cJ x u) (q:cJ y u):x=y:=Option.some.inj (r.abs.symm.trans q.abs)
theorem bY.inj:∀{xs ys:List V} {us:List Value},bY xs us->bY ys us->xs=ys
 | _,_,_,.nil,.nil=>rfl
 | _,_,_,.cons r t,.cons r' t'=>by rw [r.inj r',bY.inj t t']
section
variable {X:Cx} {pins:List (Addr × Obj)} {σ:St} {H:Hp} {s:Shared} {a:Addr} {xs ys:List V}
theorem SqL.of {K:PySem.W.Frag} (h:H a=some (.lst xs)):SqL K H a xs:=.inl (.inl h)
theorem SqT.of {K:PySem.W.Frag} (h:H a=some (.tup xs)):SqT K H a xs:=.inl (.inl h)
theorem Inv.list (I:Inv X pins σ H s) (h:SqL X.K H a xs):∃its:List Value,bY xs its/\PlainL s.heap a its.toArray/\xs.length<=sizeLine:=by
 rcases h with h|⟨o,its,n,hk,hc,hd,hs,hz,r⟩
 ·obtain⟨z,its,n,r,e⟩:=h.ok I.hok
  exact⟨its,r,⟨_,n,e,rfl,rfl,rfl⟩,z⟩
 ·refine⟨its.toList,r,⟨o,n,I.kIn a o hk,hc,hd,by simpa using hs⟩,?_⟩
  have e:=r.length
  simp only [Array.length_toList] at e
  omega
theorem Inv.tuple (I:Inv X pins σ H s) (h:SqT X.K H a xs):∃its:List Value,bY xs its/\IsTup s.heap a its.toArray/\xs.length<=sizeLine:=by
 rcases h with h|⟨o,its,n,hk,hc,hs,hz,r⟩
 ·obtain⟨z,its,r,p⟩:=h.ok I.hok
  exact⟨its,r,p,z⟩
 ·refine⟨its.toList,r,⟨o,I.kIn a o hk,hc,n,by simpa using hs⟩,?_⟩
  have e:=r.length
  simp only [Array.length_toList] at e
  omega
theorem Inv.list_inj (I:Inv X pins σ H s) (h:SqL X.K H a xs) (h':SqL X.K H a ys):xs=ys:=by
 obtain⟨its,r,⟨o,n,e,_,_,d⟩,_⟩:=I.list h
 obtain⟨its',r',⟨o',n',e',_,_,d'⟩,_⟩:=I.list h'
 rw [e] at e';cases e'
 rw [d] at d'
 injection d' with d1 _
 have:its=its':=by simpa using congrArg Array.toList d1
 subst this
 exact r.inj r'
theorem Inv.tuple_inj (I:Inv X pins σ H s) (h:SqT X.K H a xs) (h':SqT X.K H a ys):xs=ys:=by
 obtain⟨its,r,⟨o,e,_,n,d⟩,_⟩:=I.tuple h
 obtain⟨its',r',⟨o',e',_,n',d'⟩,_⟩:=I.tuple h'
 rw [e] at e';cases e'
 rw [d] at d'
 injection d' with d1 _
 have:its=its':=by simpa using congrArg Array.toList d1
 subst this
 exact r.inj r'
end
abbrev Cx.wish (X:Cx) (E:Value->Shared->Prop):Cx:={ X with xe:=E }
abbrev Cx.nox (X:Cx):Cx:=X.wish fun _ _=>False
theorem Cx.Ok.wish {X:Cx} (ok:X.Ok) (E:Value->Shared->Prop):(X.wish E).Ok:=
 ⟨ok.mod,ok.kind,ok.glob,ok.blt,ok.above,ok.inj,ok.has,ok.cab,ok.hd,ok.frames,ok.stk,ok.exf,ok.bs,ok.bsz,ok.noex,ok.exfs,ok.funs,ok.frf⟩
theorem Cx.Ok.unwish {X:Cx} {E:Value->Shared->Prop} (ok:(X.wish E).Ok):X.Ok:=
 ⟨ok.mod,ok.kind,ok.glob,ok.blt,ok.above,ok.inj,ok.has,ok.cab,ok.hd,ok.frames,ok.stk,ok.exf,ok.bs,ok.bsz,ok.noex,ok.exfs,ok.funs,ok.frf⟩
section
variable {X:Cx} {pins:List (Addr × Obj)} {σ:St} {H:Hp} {s:Shared} {E:Value->Shared->Prop}
theorem Inv.wish (I:Inv X pins σ H s) (E:Value->Shared->Prop):Inv (X.wish E) pins σ H s:=⟨I.ok.wish E,I.os,I.bare,I.base,I.loc,I.cell,I.free,I.freeC,I.pin,I.hok,I.len⟩
theorem Inv.unwish (I:Inv (X.wish E) pins σ H s):Inv X pins σ H s:=⟨I.ok.unwish,I.os,I.bare,I.base,I.loc,I.cell,I.free,I.freeC,I.pin,I.hok,I.len⟩
theorem SP.unwish {D:jV} {f:Flow} {s':Shared} (h:SP (X.wish E) pins D f s'):SP X pins D f s':=by
 cases f with
 | next=>obtain⟨σ',H',I,q⟩:=h;exact⟨σ',H',I.unwish,q⟩
 | brk=>obtain⟨σ',H',I,q⟩:=h;exact⟨σ',H',I.unwish,q⟩
 | cont=>obtain⟨σ',H',I,q⟩:=h;exact⟨σ',H',I.unwish,q⟩
 | ret u=>obtain⟨v,σ',H',I,r,q⟩:=h;exact⟨v,σ',H',I.unwish,r,q⟩
theorem PSs.nox {st:List Stmt} {t:TS} (h:PSs X.nox st t):PSs X st t:=fun pins s σ H D I hw=>
 wpAny_mono (h s σ H D (I.wish _) hw) (fun _ _ q=>q.unwish) fun _ _ z=>False.elim z
end
section
variable {X:Cx} {st:Stmt} {rest:List Stmt} {t u:TS} {e:Expr} {te:TE} {pos:Pos}
def tNext:TS:=fun D σ H=>D.nx σ H
def tSeq (t u:TS):TS:=fun D σ H=>t { D with nx:=u D } σ H
theorem aW:PSs X [] tNext:=fun _ _ σ H _ I h=>wpAny_execs_nil ⟨σ,H,I,h⟩
theorem aD (h1:PS X st t) (h2:PSs X rest u):PSs X (st::rest) (tSeq t u):=by
 intro pins s σ H D I h
 refine wpAny_execs_cons (thn (h1 s σ H { D with nx:=u D } I h) fun f s1 q=>?_)
 cases f with
 | next=>
  obtain⟨σ',H',I',q⟩:=q
  exact h2 s1 σ' H' D I' q
 | ret v=>exact q
 | brk=>exact q
 | cont=>exact q
theorem aI (h1:PS X st t):PSs X [st] t:=by
 intro pins s σ H D I h
 refine wpAny_execs_cons (thn (h1 s σ H D I h) fun f s1 q=>?_)
 cases f with
 | next=>exact wpAny_execs_nil q
 | ret v=>exact q
 | brk=>exact q
 | cont=>exact q
theorem Inv.quiet {pins:List (Addr × Obj)} {σ:St} {H:Hp} {s:Shared} (I:Inv X pins σ H s):interactive X.env=false:=by simp [interactive,I.ok.kind]
def tDrop (te:TE):TS:=fun D σ H=>te σ H fun _ H1=>D.nx σ H1
theorem qE (he:PE X e te) (hs:swapsWith e none pos.line X.env=pure false:=by rfl):PS X (.Expr e pos) (tDrop te):=by
 intro pins s σ H D I h
 exact wpAny_Expr_any (thn (he s σ H _ I h) fun v s1 ⟨x,H1,I1,r1,q1⟩=>⟨σ,H1,I1,q1⟩) I.quiet hs
def tRet (te:TE):TS:=fun D σ H=>te σ H D.rt
theorem aT (he:PE X e te):PS X (.Return (some e) pos) (tRet te):=by
 intro pins s σ H D I h
 exact wpAny_Return_some (thn (he s σ H _ I h) fun v s1 ⟨x,H1,I1,r1,q1⟩=>⟨x,σ,H1,I1,r1,q1⟩)
def tIfS (c:TT) (t u:TS):TS:=fun D σ H=>c σ H fun b H1=>if b=true then t D σ H1 else u D σ H1
theorem cB {c:Expr} {a b:List Stmt} {tc:TT} (hc:PT X c tc) (ha:PSs X a t) (hb:PSs X b u):PS X (.If c a b pos) (tIfS tc t u):=by
 intro pins s σ H D I h
 refine wpAny_If (thn (hc s σ H _ I h) fun d s1 ⟨H1,I1,q1⟩=>?_)
 cases d with
 | true=>exact ha s1 σ H1 D I1 q1
 | false=>exact hb s1 σ H1 D I1 q1
end
abbrev TG:=V->St->Hp->(St->Hp->Prop)->Prop
abbrev TGs:=List V->St->Hp->(St->Hp->Prop)->Prop
def PG (X:Cx) (target:Expr) (t:TG):Prop:=
 ∀ ⦃pins:List (Addr × Obj)⦄ (s:Shared) (σ:St) (H:Hp) (v:V) (u:Value) (Q:St->Hp->Prop),Inv X pins σ H s->cJ v u->t v σ H Q ->
  wpAny (model X.prog X.w) X.A (assign target X.env u) (fun _ s'=>∃ σ' H',Inv X pins σ' H' s'/\Q σ' H') X.xe s
def PGs (X:Cx) (ts:List Expr) (t:TGs):Prop:=
 ∀ ⦃pins:List (Addr × Obj)⦄ (s:Shared) (σ:St) (H:Hp) (vs:List V) (us:List Value) (Q:St->Hp->Prop),Inv X pins σ H s->bY vs us->t vs σ H Q ->
  wpAny (model X.prog X.w) X.A (assignInOrder ((assignEach ts X.env).map (·.2)) us) (fun _ s'=>∃ σ' H',Inv X pins σ' H' s'/\Q σ' H') X.xe s
abbrev TSet:=V->V->V->Hp->(Hp->Prop)->Prop
def PSet (X:Cx) (t:TSet):Prop:=
 ∀(pins:List (Addr × Obj)) (s:Shared) (σ:St) (H:Hp) (o i v:V) (ov iv u:Value) (Q:Hp->Prop),Inv X pins σ H s->cJ o ov->cJ i iv->cJ v u->t o i v H Q ->
  wpAny (model X.prog X.w) X.A (setItem ov iv u) (fun _ s'=>∃H',Inv X pins σ H' s'/\Q H') X.xe s
section
variable {X:Cx} {pos:Pos}
def dS (i:Nat):TG:=fun v σ H Q=>Q (σ.set i (some v)) H
theorem cC {i:Nat} {x:Str} (hN:X.N.Nodup) (hi:X.N[i]?=some x) (hx:Loc X.env.scope x) (hf:X.fn x=true\/X.env.scope.names.lookup x=some .local:=by first|exact .inl rfl|exact .inr rfl|assumption):PG X (.Name x pos) (dS i):=by
 intro pins s σ H v u Q I r h
 exact wpAny_assign_Name (lR I hN hi hx r (fun s' I'=>⟨_,H,I',h⟩) hf)
def gNil:TGs:=fun vs σ H Q=>vs=[]/\Q σ H
def sX (t:TG) (u:TGs):TGs:=fun vs σ H Q=>∃v r,vs=v::r/\t v σ H fun σ' H'=>u r σ' H' Q
theorem jK:PGs X [] gNil:=by
 intro pins s σ H vs us Q I r h
 obtain⟨e,h⟩:=h
 subst e
 cases r
 exact assignInOrder_nil ⟨σ,H,I,h⟩
theorem dR {e:Expr} {es:List Expr} {t:TG} {u:TGs} (h1:PG X e t) (h2:PGs X es u)
  (hs:(assignEach (e::es) X.env).map (·.2)=assign e X.env::(assignEach es X.env).map (·.2):=by rfl):PGs X (e::es) (sX t u):=by
 intro pins s σ H vs us Q I r h
 obtain⟨v,vr,e1,h⟩:=h
 subst e1
 cases r with
 | cons r rr=>
  rw [hs]
  refine assignInOrder_cons (thn (h1 s σ H _ _ _ I r h) fun _ s1 ⟨σ1,H1,I1,q1⟩=>?_)
  exact h2 s1 σ1 H1 _ _ Q I1 rr q1
def gTup (K:PySem.W.Frag) (n:Nat) (t:TGs):TG:=fun v σ H Q=>∃a xs,v=.ref a/\SqT K H a xs/\xs.length=n/\t xs σ H Q
theorem qH {es:List Expr} {k:Nat} {t:TGs} {n:Nat} (hc:X.calm=true) (h:PGs X es t)
  (hn:(assignEach es X.env).length=n:=by rfl) (hst:(assignEach es X.env).findIdx? (·.1)=none:=by rfl):PG X (.Tuple es k pos) (gTup X.K n t):=by
 intro pins s σ H v u Q I r hw
 obtain⟨a,xs,e1,hq,hl,hw⟩:=hw
 subst e1
 cases r
 obtain⟨its,rv,ht,hz⟩:=I.tuple hq
 refine assign_Tuple_tuple (I.ok.hd hc) ht (by simp [hn,<- hl,rv.length]) hst fun h' hx=>?_
 have I1:Inv X pins σ H { s with heap:=h' }:=I.kept (t':=s.toks) fun b o e=>hx b o (Nat.ne_of_lt (Heap.lt_size e)) e
 exact h _ σ H xs _ Q I1 (by simpa using rv) hw
def gSub (to ti:TE) (t:TSet):TG:=fun v σ H Q=>to σ H fun o H1=>ti σ H1 fun i H2=>t o i v H2 fun H3=>Q σ H3
theorem yY {o i:Expr} {to ti:TE} {t:TSet} (ho:PE X o to) (hi:PE X i ti) (hs:PSet X t)
  (ha:∀v,assign (.Subscript o i pos) X.env v=(do
   let ov <- holding [v] (eval o X.env)
   let iv <- holding [v,ov] (eval i X.env)
   standAt pos
   holding [v,ov,iv] (setItem ov iv v)
   release [v,ov,iv] []):=by intro _;rfl):PG X (.Subscript o i pos) (gSub to ti t):=by
 intro pins s σ H v u Q I r h
 rw [ha]
 refine wpAny_bind (wpAny_holding (thn (ho s σ H _ I h) fun ov s1 ⟨x,H1,I1,r1,q1⟩=>?_))
 refine wpAny_bind (wpAny_holding (thn (hi s1 σ H1 _ I1 q1) fun iv s2 ⟨y,H2,I2,r2,q2⟩=>?_))
 refine wpAny_bind (wpAny_standAt (wpAny_bind (wpAny_holding (thn (hs pins s2 σ H2 x y v ov iv u _ I2 r1 r2 r q2) fun _ s3 ⟨H3,I3,q3⟩=>?_))))
 exact wpAny_release ⟨σ,H3,I3,q3⟩
def tAsg (te:TE) (g:TG):TS:=fun D σ H=>te σ H fun x H1=>g x σ H1 D.nx
theorem yR {tg e:Expr} {te:TE} {g:TG} (he:PE X e te) (hg:PG X tg g) (hs:swapsWithSole [tg] e pos.line X.env=pure false:=by rfl) (hw:swappedStores [tg] e X.env=pure none:=by rfl)
  (h1:(assignEach [tg] X.env).map (·.2)=[assign tg X.env]:=by rfl):PS X (.Assign [tg] e pos) (tAsg te g):=by
 intro pins s σ H D I h
 refine wpAny_Assign_stores (thn (he s σ H _ I h) fun v s1 ⟨x,H1,I1,r1,q1⟩=>?_) hs hw
 rw [h1]
 exact thn (hg s1 σ H1 x v _ I1 r1 q1) fun _ s2 q=>q
theorem aN {i:Nat} {x:Str} {e:Expr} {te:TE} {pos':Pos} (hN:X.N.Nodup) (hi:X.N[i]?=some x) (hx:Loc X.env.scope x) (he:PE X e te) (hs:swapsWith e (some (.Name x pos')) pos.line X.env=pure false:=by rfl) (hf:X.fn x=true\/X.env.scope.names.lookup x=some .local:=by first|exact .inl rfl|exact .inr rfl|assumption):
  PS X (.Assign [.Name x pos'] e pos) (tAsg te (dS i)):=by
 intro pins s σ H D I h
 refine wpAny_Assign_Name (thn (he s σ H _ I h) fun v s1 ⟨y,H1,I1,r1,q1⟩=>?_) hs
 exact lR I1 hN hi hx r1 (fun s2 I2=>⟨_,H1,I2,q1⟩) hf
end
structure It where
 go:Nat->Hp->Prop
 yld:Nat->Hp->V->Hp->Prop
 stop:Nat->Hp->Prop
def gF (X:Cx) (pins:List (Addr × Obj)) (H:Hp) (b:Addr):Prop:=
 H b=none/\b≠X.env.locals/\b ∉ X.fs/\(b ∈ X.ex\/X.s₀.heap.objs.size<=b)/\(∀x c,X.env.cells.lookup x=some c->c≠b)/\∀p ∈ X.pn++pins,p.1≠b
theorem Inv.fpOk {X:Cx} {pins:List (Addr × Obj)} {σ:St} {H H':Hp} {s:Shared} {b:Addr} (I:Inv X pins σ H s) (hb:s.heap.objs.size<=b) (hn:H' b=none):gF X pins H' b:=by
 refine⟨hn,Nat.ne_of_gt (Nat.lt_of_lt_of_le I.lt hb),I.nofs hb,.inr (Nat.le_trans I.sz hb),fun x c e z=>?_,fun p hp z=>?_⟩
 ·obtain⟨v,q⟩:=I.cell x c e
  exact absurd (Nat.lt_of_lt_of_le q.lt (by rw [z];exact hb)) (Nat.lt_irrefl _)
 ·exact absurd (Nat.lt_of_lt_of_le (Heap.lt_size (I.pin p hp).1) (by rw [z];exact hb)) (Nat.lt_irrefl _)
structure tL (P:Program) (w:World) (K:PySem.W.Frag) (hd:Option Value) (tg:Expr) (J:It) (fp:List Addr) (it:Addr) (tn:Nat->Heap->Prop):Prop where
 mem:it ∈ fp
 obj:∀i h,tn i h->∀b ∈ fp,∃o,h.get? b=some o/\∀v,o.data≠.cell v
 keep:∀i h h',tn i h->(∀b ∈ fp,∀o,h.get? b=some o->h'.get? b=some o)->tn i h'
 item:∀(X:Cx),X.prog=P->X.w=w->X.K=K->X.A.handled=hd->∀(i:Nat) (pins:List (Addr × Obj)) (s:Shared) (σ:St) (H:Hp) (E:Value->Shared->Prop),Inv X pins σ H s->(∀b ∈ fp,gF X pins H b)->tn i s.heap->J.go i H ->
  wpAny (model P w) X.A (pyNext (.ref it)) (fun r s1=>∃u,r=some u /\
   wpAny (model P w) X.A (letOwnedTupleGo tg (.ref it) u) (fun _ s2=>∃x H',Inv X pins σ H' s2/\cJ x u/\J.yld i H x H'/\tn (i+1) s2.heap/\∀b ∈ fp,H' b=none) E s1) E s
 done:∀(X:Cx),X.prog=P->X.w=w->X.K=K->X.A.handled=hd->∀(i:Nat) (pins:List (Addr × Obj)) (s:Shared) (σ:St) (H:Hp) (E:Value->Shared->Prop),Inv X pins σ H s->(∀b ∈ fp,gF X pins H b)->tn i s.heap->J.stop i H ->
  wpAny (model P w) X.A (pyNext (.ref it)) (fun r s1=>r=none/\Inv X pins σ H s1) E s
 self:∀(A:Around) (i:Nat) (s:Shared) (Q:Value->Shared->Prop) (E:Value->Shared->Prop),tn i s.heap->Q (.ref it) s->wpAny (model P w) A (pyIter (.ref it)) Q E s
abbrev TI:=St->Hp->(It->Hp->Prop)->Prop
def PIE (X:Cx) (pins:List (Addr × Obj)) (σ:St) (tg:Expr) (R:It->Hp->Prop) (itv:Value) (s2:Shared):Prop:=
 ∃(it:Addr) (fp:List Addr) (tn:Nat->Heap->Prop) (J:It) (H':Hp),itv=.ref it/\Inv X pins σ H' s2/\tL X.prog X.w X.K X.A.handled tg J fp it tn/\tn 0 s2.heap/\(∀b ∈ fp,gF X pins H' b)/\R J H'
def PI (X:Cx) (tg iter:Expr) (wi:TI):Prop:=
 ∀ ⦃pins:List (Addr × Obj)⦄ (s:Shared) (σ:St) (H:Hp) (R:It->Hp->Prop),Inv X pins σ H s->wi σ H R ->
  wpAny (model X.prog X.w) X.A (eval iter X.env) (fun v s1=>wpAny (model X.prog X.w) X.A (pyIter v) (PIE X pins σ tg R) X.xe s1) X.xe s
theorem sW {M:Model} {A:Around} {E:Value->Shared->Prop} {s:Shared} {tg:Expr} {it:Addr} {u:Value} {o:Obj} {n:String} {vs:Array Value} {Q:Unit->Shared->Prop} (ho:s.heap.get? it=some o) (hc:o.cls=.type n) (hd:o.data=.fields vs)
  (hn:["enumerate","zip","dict_itemiterator","dict_reverseitemiterator","odict_iterator","itertools.zip_longest","itertools.pairwise"].contains n=false) (hQ:Q () s):wpAny M A (letOwnedTupleGo tg (.ref it) u) Q E s:=by
 unfold letOwnedTupleGo
 cases tg <;> first
  | exact wpAny_pure hQ
  | (cases u <;> first
    | exact wpAny_pure hQ
    | (refine wpAny_bind (wpAny_load ho ?_)
       rw [hc,hd]
       show wpAny M A (if (["enumerate","zip","dict_itemiterator","dict_reverseitemiterator","odict_iterator","itertools.zip_longest","itertools.pairwise"].contains n && vs[0]? == some (rawInt _))=true then _ else _) Q E s
       rw [if_neg (by intro h;rw [hn,Bool.false_and] at h;cases h)]
       exact wpAny_pure hQ))
def Itl (K:PySem.W.Frag) (a:Addr):It:=
 ⟨fun i H=>∃xs x,SqL K H a xs/\xs[i]?=some x,fun i H x H'=>H'=H/\∀xs,SqL K H a xs->xs[i]?=some x,fun i H=>∃xs,SqL K H a xs/\xs.length<=i⟩
def Itt (K:PySem.W.Frag) (a:Addr):It:=
 ⟨fun i H=>∃xs x,SqT K H a xs/\xs[i]?=some x,fun i H x H'=>H'=H/\∀xs,SqT K H a xs->xs[i]?=some x,fun i H=>∃xs,SqT K H a xs/\xs.length<=i⟩
def Itr (lo:Int) (n:Nat):It:=⟨fun i _=>i<n,fun i H x H'=>H'=H/\x=.int (lo+i),fun i _=>n<=i⟩
theorem nX {P:Program} {hd0:Option Value} {w:World} {K:PySem.W.Frag} {tg:Expr} (a it:Addr) (e0:hd0=none):tL P w K hd0 tg (Itl K a) [it] it (fun i h=>h.IsListIter it a i) where
 mem:=by simp
 obj:=fun i h st b hb=>by
  have e:b=it:=by simpa using hb
  subst e
  obtain⟨o,e,c,d⟩:=st
  exact⟨o,e,fun v z=>by rw [d] at z;cases z⟩
 keep:=fun i h h' st k=>st.at fun o e=>k it (by simp) o e
 item:=by
  intro X hP hw hK hc i pins s σ H E I hf st hg
  subst hP hw hK
  obtain⟨xs,x,hq,hx⟩:=hg
  obtain⟨its,rv,p,hz⟩:=I.list hq
  obtain⟨u,hu,ru⟩:=rv.get hx
  obtain⟨f0,f1,f2,f3,f4,f5⟩:=hf it (by simp)
  refine wpAny_pyNext_list_item st p.isList (x:=u) (by simpa using hu) fun h' st' sb=>?_
  have I1:Inv X pins σ H { s with heap:=h' }:=I.turned (t':=s.toks) (fun b o hb e=>(sb.2 b hb).trans e) f0 f1 f3 f4 f5
  obtain⟨o,e,c,d⟩:=id st'
  exact⟨u,rfl,sW (s:={ s with heap:=h' }) e c d (by decide) ⟨x,H,I1,ru,⟨rfl,fun ys hy=>by rw [I.list_inj hy hq];exact hx⟩,st',fun b hb=>(hf b hb).1⟩⟩
 done:=by
  intro X hP hw hK hc i pins s σ H E I hf st hg
  subst hP hw hK
  obtain⟨xs,hq,hx⟩:=hg
  obtain⟨its,rv,p,hz⟩:=I.list hq
  obtain⟨f0,f1,f2,f3,f4,f5⟩:=hf it (by simp)
  have hl:=rv.length
  exact wpAny_pyNext_list_end (hc.trans e0) st p.isList (by simp;omega) fun h' eb=>⟨rfl,I.turned (t':=s.toks) (fun b o hb e=>eb b o hb e) f0 f1 f3 f4 f5⟩
 self:=fun _ _ _ _ _ st h=>wpAny_pyIter_listiter st h
theorem lP {P:Program} {hd0:Option Value} {w:World} {K:PySem.W.Frag} {tg:Expr} (a it:Addr) (e0:hd0=none):tL P w K hd0 tg (Itt K a) [it] it (fun i h=>h.IsTupleIter it a i) where
 mem:=by simp
 obj:=fun i h st b hb=>by
  have e:b=it:=by simpa using hb
  subst e
  obtain⟨o,e,c,d⟩:=st
  exact⟨o,e,fun v z=>by rw [d] at z;cases z⟩
 keep:=fun i h h' st k=>st.at fun o e=>k it (by simp) o e
 item:=by
  intro X hP hw hK hc i pins s σ H E I hf st hg
  subst hP hw hK
  obtain⟨xs,x,hq,hx⟩:=hg
  obtain⟨its,rv,p,hz⟩:=I.tuple hq
  obtain⟨u,hu,ru⟩:=rv.get hx
  obtain⟨f0,f1,f2,f3,f4,f5⟩:=hf it (by simp)
  refine wpAny_pyNext_tuple_item st (show s.heap.IsTuple a its.toArray from p) (x:=u) (by simpa using hu) fun h' st' sb=>?_
  have I1:Inv X pins σ H { s with heap:=h' }:=I.turned (t':=s.toks) (fun b o hb e=>(sb.2 b hb).trans e) f0 f1 f3 f4 f5
  obtain⟨o,e,c,d⟩:=id st'
  exact⟨u,rfl,sW (s:={ s with heap:=h' }) e c d (by decide) ⟨x,H,I1,ru,⟨rfl,fun ys hy=>by rw [I.tuple_inj hy hq];exact hx⟩,st',fun b hb=>(hf b hb).1⟩⟩
 done:=by
  intro X hP hw hK hc i pins s σ H E I hf st hg
  subst hP hw hK
  obtain⟨xs,hq,hx⟩:=hg
  obtain⟨its,rv,p,hz⟩:=I.tuple hq
  obtain⟨f0,f1,f2,f3,f4,f5⟩:=hf it (by simp)
  have hl:=rv.length
  exact wpAny_pyNext_tuple_end (hc.trans e0) st (show s.heap.IsTuple a its.toArray from p) (by simp;omega) fun h' eb=>⟨rfl,I.turned (t':=s.toks) (fun b o hb e=>eb b o hb e) f0 f1 f3 f4 f5⟩
 self:=fun _ _ _ _ _ st h=>wpAny_pyIter_tupleiter st h
theorem tT {P:Program} {hd0:Option Value} {w:World} {K:PySem.W.Frag} {tg:Expr} (it:Addr) (lo:Int) (n:Nat) (e0:hd0=none):tL P w K hd0 tg (Itr lo n) [it] it (fun i h=>IsRangeIter h it (lo+(i:Nat) * 1) ((n:Int)-(i:Nat)) 1) where
 mem:=by simp
 obj:=fun i h st b hb=>by
  have e:b=it:=by simpa using hb
  subst e
  exact⟨_,st,fun v z=>by
   have z':Data.fields _=Data.cell v:=z
   cases z'⟩
 keep:=fun i h h' st k=>k it (by simp) _ st
 item:=by
  intro X hP hw hK hc i pins s σ H E I hf st hg
  subst hP hw hK
  obtain⟨f0,f1,f2,f3,f4,f5⟩:=hf it (by simp)
  have W:=Walks.range (prog:=X.prog) (w:=X.w) (hc.trans e0) it lo 1 n
  refine W.item i s _ _ hg st fun v h' tk hv st' kk=>?_
  obtain⟨t,rfl⟩:=hv
  have I1:Inv X pins σ H { s with heap:=h',toks:=tk }:=I.turned (fun b o hb e=>kk b o (by simpa using hb) e) f0 f1 f3 f4 f5
  refine⟨_,rfl,sW (s:={ s with heap:=h',toks:=tk }) (n:="range_iterator") st' rfl rfl (by decide) ⟨.int (lo+i),H,I1,⟨t,?_⟩,⟨rfl,rfl⟩,st',fun b hb=>(hf b hb).1⟩⟩
  rw [Int.mul_one]
 done:=by
  intro X hP hw hK hc i pins s σ H E I hf st hg
  subst hP hw hK
  obtain⟨f0,f1,f2,f3,f4,f5⟩:=hf it (by simp)
  exact wpAny_pyNext_range_end (hc.trans e0) st (by have:n<=i:=hg;omega) fun h' eb=>⟨rfl,I.turned (t':=s.toks) (fun b o hb e=>eb b o hb e) f0 f1 f3 f4 f5⟩
 self:=fun _ _ _ _ _ st h=>wpAny_pyIter_rangeiter st h
section
variable {X:Cx} {tg:Expr}
def iList (K:PySem.W.Frag) (tl:TE):TI:=fun σ H R=>tl σ H fun x H1=>∃a,x=.ref a/\(∃xs,SqL K H1 a xs)/\R (Itl K a) H1
def iTup (K:PySem.W.Frag) (tl:TE):TI:=fun σ H R=>tl σ H fun x H1=>∃a,x=.ref a/\(∃xs,SqT K H1 a xs)/\R (Itt K a) H1
theorem iI {l:Expr} {tl:TE} (hl:PE X l tl) (hc0:X.calm=true:=by rfl):PI X tg l (iList X.K tl):=by
 intro pins s σ H R I h
 refine thn (hl s σ H _ I h) fun v s1 ⟨x,H1,I1,r1,q1⟩=>?_
 obtain⟨a,e,⟨xs,hq⟩,q⟩:=q1
 subst e
 cases r1
 obtain⟨its,rv,p,hz⟩:=I1.list hq
 refine wpAny_pyIter_list p.isList ?_
 refine⟨s1.heap.objs.size,[s1.heap.objs.size],_,_,H1,rfl,I1.kept (t':=s1.toks) fun b o e=>Heap.get?_push_of_some _ e,nX a _ (I.ok.hd hc0),⟨_,Heap.get?_push_size _ rfl,rfl,rfl⟩,fun b hb=>?_,q⟩
 have e:b=s1.heap.objs.size:=by simpa using hb
 subst e
 exact I1.fpOk (Nat.le_refl _) (I1.hok.fresh (Nat.le_refl _))
theorem qG {l:Expr} {tl:TE} (hl:PE X l tl) (hc0:X.calm=true:=by rfl):PI X tg l (iTup X.K tl):=by
 intro pins s σ H R I h
 refine thn (hl s σ H _ I h) fun v s1 ⟨x,H1,I1,r1,q1⟩=>?_
 obtain⟨a,e,⟨xs,hq⟩,q⟩:=q1
 subst e
 cases r1
 obtain⟨its,rv,p,hz⟩:=I1.tuple hq
 refine wpAny_pyIter_tuple (show s1.heap.IsTuple a its.toArray from p) ?_
 refine⟨s1.heap.objs.size,[s1.heap.objs.size],_,_,H1,rfl,I1.kept (t':=s1.toks) fun b o e=>Heap.get?_push_of_some _ e,lP a _ (I.ok.hd hc0),⟨_,Heap.get?_push_size _ rfl,rfl,rfl⟩,fun b hb=>?_,q⟩
 have e:b=s1.heap.objs.size:=by simpa using hb
 subst e
 exact I1.fpOk (Nat.le_refl _) (I1.hok.fresh (Nat.le_refl _))
theorem rV {pins:List (Addr × Obj)} {σ:St} {H:Hp} {s:Shared} {R:It->Hp->Prop} {E:Value->Shared->Prop} {lo hi:Int} {t u v:Tok} {tk:Nat} (hc0:X.calm=true) (I:Inv X pins σ H s) (h1:-(2 ^ 62)<=lo) (h2:lo<2 ^ 62) (h3:-(2 ^ 62)<=hi) (h4:hi<2 ^ 62)
  (q:R (Itr lo (hi-lo).toNat) H):wpAny (model X.prog X.w) X.A (pyIter (.ref s.heap.objs.size)) (PIE X pins σ tg R) E { s with heap:=s.heap.push { cls:=.type "range",data:=.fields #[.int lo t,.int hi u,.int 1 v] },toks:=tk }:=by
 refine wpAny_pyIter_range (IsRange.new ..) (small_one h1 h2 h3 h4) ?_
 have I1:Inv X pins σ H { s with heap:=s.heap.push { cls:=.type "range",data:=.fields #[.int lo t,.int hi u,.int 1 v] },toks:=tk }:=I.kept fun b o e=>Heap.get?_push_of_some _ e
 refine⟨(s.heap.push { cls:=.type "range",data:=.fields #[.int lo t,.int hi u,.int 1 v] }).objs.size,[(s.heap.push { cls:=.type "range",data:=.fields #[.int lo t,.int hi u,.int 1 v] }).objs.size],_,_,H,rfl,
  I1.kept (t':=tk) fun b o e=>Heap.get?_push_of_some _ e,tT _ lo (hi-lo).toNat (I.ok.hd hc0),?_,fun b hb=>?_,q⟩
 ·have e1:lo+((0:Nat):Int) * 1=lo:=by simp
  have e2:(((hi-lo).toNat:Nat):Int)-((0:Nat):Int)=Builtin.Range.rangeSize lo hi 1:=by rw [rangeSize_one];split <;> omega
  show IsRangeIter _ _ (lo+((0:Nat):Int) * 1) ((((hi-lo).toNat:Nat):Int)-((0:Nat):Int)) 1
  rw [e1,e2]
  exact Heap.get?_push_size _ rfl
 ·have e:b=(s.heap.push { cls:=.type "range",data:=.fields #[.int lo t,.int hi u,.int 1 v] }).objs.size:=by simpa using hb
  subst e
  exact I1.fpOk (Nat.le_refl _) (I1.hok.fresh (Nat.le_refl _))
def iRng1 (ta:TA):TI:=fun σ H R=>ta σ H fun vs H1=>∃j:Int,vs=[.int j]/\-(2 ^ 62)<=j/\j<2 ^ 62/\R (Itr 0 j.toNat) H1
def iRng2 (ta:TA):TI:=fun σ H R=>ta σ H fun vs H1=>∃i j:Int,vs=[.int i,.int j]/\(-(2 ^ 62)<=i/\i<2 ^ 62/\-(2 ^ 62)<=j/\j<2 ^ 62)/\R (Itr i (j-i).toNat) H1
theorem gI {a:Expr} {ta:TA} {p pos:Pos} (hg:Gl X "range") (hm:X.mg "range"=none) (ha:PA X [a] ta) (hs:starEach [a] X.env=[(false,eval a X.env)]:=by rfl) (hc0:X.calm=true:=by rfl):PI X tg (.Call (.Name "range" p) [a] [] pos) (iRng1 ta):=by
 intro pins s σ H R I h
 refine Call_ (iC I hg hm boot_range (PyProof.Rows.callWith_type1 (thn (ha pins s σ H _ I h) fun us s1 ⟨vs,H1,I1,r1,q1⟩=>?_) hs rfl))
 obtain⟨j,e,q1,q2,q⟩:=q1
 subst e
 cases r1 with
 | cons r rr=>
  cases rr
  obtain⟨t,rfl⟩:=r
  exact call_range_1 (rV hc0 I1 (by omega) (by omega) q1 q2 (by simpa using q))
theorem oI {a b:Expr} {ta:TA} {p pos:Pos} (hg:Gl X "range") (hm:X.mg "range"=none) (ha:PA X [a,b] ta) (hs:starEach [a,b] X.env=[(false,eval a X.env),(false,eval b X.env)]:=by rfl) (hs2:starEach [b] X.env=[(false,eval b X.env)]:=by rfl) (hc0:X.calm=true:=by rfl):
  PI X tg (.Call (.Name "range" p) [a,b] [] pos) (iRng2 ta):=by
 intro pins s σ H R I h
 refine Call_ (iC I hg hm boot_range (PyProof.Rows.callWith_type1 (thn (ha pins s σ H _ I h) fun us s1 ⟨vs,H1,I1,r1,q1⟩=>?_) (by rw [hs,hs2]) (by rw [hs2];rfl)))
 obtain⟨i,j,e,⟨q1,q2,q3,q4⟩,q⟩:=q1
 subst e
 cases r1 with
 | cons r rr=>
  cases rr with
  | cons r' rr=>
   cases rr
   obtain⟨t,rfl⟩:=r
   obtain⟨t',rfl⟩:=r'
   exact call_range_2 (rV hc0 I1 q1 q2 q3 q4 q)
def tFor (wi:TI) (g:TG) (tb:TS):TS:=fun D σ H=>wi σ H fun J H1=>∃W:Nat->Nat->St->Hp->Prop,(∃m,W 0 m σ H1)/\∀i m σ H,W i m σ H ->
 (J.stop i H/\D.nx σ H)\/(J.go i H/\∃N:St->Hp->Prop,(∀ σ' H',N σ' H'->∃m',m'<m/\W (i+1) m' σ' H')/\∀x H',J.yld i H x H'->g x σ H' fun σ2 H2=>tb { D with nx:=N,ct:=N,bk:=D.nx } σ2 H2)
def dO (fp:List Addr) (h:Heap):List (Addr × Obj):=fp.filterMap fun b=>(h.get? b).map fun o=>(b,o)
theorem cX {fp:List Addr} {h:Heap} {b:Addr} {o:Obj} (hb:b ∈ fp) (e:h.get? b=some o):(b,o) ∈ dO fp h:=List.mem_filterMap.mpr ⟨b,hb,by rw [e];rfl⟩
theorem xL {fp:List Addr} {h:Heap} {p:Addr × Obj} (hp:p ∈ dO fp h):p.1 ∈ fp/\h.get? p.1=some p.2:=by
 obtain⟨b,hb,e⟩:=List.mem_filterMap.mp hp
 cases q:h.get? b with
 | none=>rw [q] at e;cases e
 | some o=>
  rw [q] at e
  have e':(b,o)=p:=Option.some.inj e
  subst e'
  exact⟨hb,q⟩
theorem Inv.pinned {pins:List (Addr × Obj)} {σ:St} {H:Hp} {s:Shared} {fp:List Addr} (I:Inv X pins σ H s) (hf:∀b ∈ fp,gF X pins H b) (ho:∀b ∈ fp,∃o,s.heap.get? b=some o/\∀v,o.data≠.cell v):Inv X (pins++dO fp s.heap) σ H s:=
 I.pins_of fun p hp=>(List.mem_append.mp hp).elim (fun z=>I.pin p (List.mem_append_right _ z)) fun z=>by
  obtain⟨hb,e⟩:=xL z
  obtain⟨f0,f1,f2,_⟩:=hf p.1 hb
  obtain⟨o,e',d⟩:=ho p.1 hb
  rw [e] at e';cases e'
  exact⟨e,f0,f1,f2,d⟩
theorem Inv.unpinned {pins pl:List (Addr × Obj)} {σ:St} {H:Hp} {s:Shared} (I:Inv X (pins++pl) σ H s):Inv X pins σ H s:=I.pins_of fun p hp=>I.pin p (List.mem_append_right _ (List.mem_append_left _ hp))
theorem gR {iter:Expr} {body:List Stmt} {wi:TI} {g:TG} {tb:TS} {pos:Pos} (hp:PassesOwn (model X.prog X.w) X.A X.env X.xe) (hc:X.calm=true) (hi:PI X tg iter wi) (hg:PG X tg g) (hb:PSs X body tb)
  (hs:∀x,foldedSetIterable iter X.env x=pure x:=by intro _;rfl):PS X (.For tg iter body [] pos) (tFor wi g tb):=by
 intro pins s σ H D I h
 refine wpAny_For (thn (hi s σ H _ I h) fun v s1 h1=>thn h1 fun itv s2 h2=>?_) hs
 obtain⟨it,fp,tn,J,H2,e,I2,T,st2,f2,W,⟨m0,w0⟩,turn⟩:=h2
 subst e
 have stat:∀{H':Hp},(∀b ∈ fp,H' b=none)->∀b ∈ fp,gF X pins H' b:=fun hn b hb=>⟨hn b hb,(f2 b hb).2⟩
 refine codeAny_forLoop_any (fun n s'=>∃i σ' H',Inv X pins σ' H' s'/\tn i s'.heap/\(∀b ∈ fp,H' b=none)/\W i n σ' H') ?_ m0 ⟨0,σ,H2,I2,st2,fun b hb=>(f2 b hb).1,w0⟩
 rintro n s3 ⟨i,σ3,H3,I3,st3,fr3,w3⟩
 rcases turn i n σ3 H3 w3 with ⟨stop,qn⟩|⟨go,N,hN,step⟩
 ·refine wpAny_passesOwn hp (thn (T.done X rfl rfl rfl rfl i pins s3 σ3 H3 X.xe I3 (stat fr3) st3 stop) fun r s4 ⟨hr,I4⟩=>?_)
  subst hr
  exact wpAny_execs_nil ⟨σ3,H3,I4,qn⟩
 ·refine wpAny_passesOwn hp (thn (T.item X rfl rfl rfl rfl i pins s3 σ3 H3 X.xe I3 (stat fr3) st3 go) fun r s4 ⟨u,hr,h4⟩=>?_)
  subst hr
  refine wpAny_passesOwn hp (thn h4 fun _ s5 ⟨x,H5,I5,r5,y5,st5,fr5⟩=>?_)
  have I5':=I5.pinned (stat fr5) (T.obj _ _ st5)
  refine wpAny_passesOwn hp (thn (hg s5 σ3 H5 x u _ I5' r5 (step x H5 y5)) fun _ s6 ⟨σ6,H6,I6,q6⟩=>?_)
  refine wpAny_passesOwn hp (thn (hb s6 σ6 H6 _ I6 q6) fun f s7 q7=>?_)
  have again:∀{σ7:St} {H7:Hp},Inv X (pins++dO fp s5.heap) σ7 H7 s7->N σ7 H7->∃m,m<n/\∃i σ' H',Inv X pins σ' H' s7/\tn i s7.heap/\(∀b ∈ fp,H' b=none)/\W i m σ' H':=fun {σ7 H7} I7 n7=>by
   obtain⟨m',hm,w7⟩:=hN σ7 H7 n7
   refine⟨m',hm,i+1,σ7,H7,I7.unpinned,T.keep _ _ _ st5 fun b hb o e=>(I7.pin (b,o) (List.mem_append_right _ (List.mem_append_right _ (cX hb e)))).1,fun b hb=>?_,w7⟩
   obtain⟨o,e,d⟩:=T.obj _ _ st5 b hb
   exact(I7.pin (b,o) (List.mem_append_right _ (List.mem_append_right _ (cX hb e)))).2.1
  cases f with
  | next=>obtain⟨σ7,H7,I7,n7⟩:=q7;exact again I7 n7
  | cont=>obtain⟨σ7,H7,I7,n7⟩:=q7;exact again I7 n7
  | brk=>obtain⟨σ7,H7,I7,q7⟩:=q7;exact⟨σ7,H7,I7.unpinned,q7⟩
  | ret v=>obtain⟨x7,σ7,H7,I7,r7,q7⟩:=q7;exact⟨x7,σ7,H7,I7.unpinned,r7,q7⟩
end
theorem AaI {K:PySem.W.Frag} {a:Addr} {xs:List V} {g:TG} {tb:TS} {D:jV} {σ:St} {H:Hp} (Pv:Nat->St->Hp->Prop) (h0:Pv 0 σ H) (hl:∀i σ H,i<=xs.length->Pv i σ H->SqL K H a xs)
  (hs:∀i x σ H,xs[i]?=some x->Pv i σ H->g x σ H fun σ2 H2=>tb { D with nx:=Pv (i+1),ct:=Pv (i+1),bk:=D.nx } σ2 H2) (hd:∀ σ H,Pv xs.length σ H->D.nx σ H):
  ∃W:Nat->Nat->St->Hp->Prop,(∃m,W 0 m σ H)/\∀i m σ H,W i m σ H ->
   ((Itl K a).stop i H/\D.nx σ H)\/((Itl K a).go i H/\∃N:St->Hp->Prop,(∀ σ' H',N σ' H'->∃m',m'<m/\W (i+1) m' σ' H')/\∀x H',(Itl K a).yld i H x H'->g x σ H' fun σ2 H2=>tb { D with nx:=N,ct:=N,bk:=D.nx } σ2 H2):=by
 refine⟨fun i m σ H=>m=xs.length-i/\i<=xs.length/\Pv i σ H,⟨xs.length,by simp,Nat.zero_le _,h0⟩,?_⟩
 rintro i m σ H ⟨rfl,hi,p⟩
 have q:=hl i σ H hi p
 by_cases hlt:i<xs.length
 ·refine .inr ⟨⟨xs,xs[i],q,by simp [hlt]⟩,Pv (i+1),fun σ' H' p'=>⟨xs.length-(i+1),by omega,rfl,hlt,p'⟩,fun x H' y=>?_⟩
  obtain⟨e,y⟩:=y
  subst e
  exact hs i x σ _ (y xs q) p
 ·have e:i=xs.length:=by omega
  subst e
  exact .inl ⟨⟨xs,q,Nat.le_refl _⟩,hd σ H p⟩
theorem qO {K:PySem.W.Frag} {a:Addr} {xs:List V} {g:TG} {tb:TS} {D:jV} {σ:St} {H:Hp} (Pv:Nat->St->Hp->Prop) (h0:Pv 0 σ H) (hl:∀i σ H,i<=xs.length->Pv i σ H->SqT K H a xs)
  (hs:∀i x σ H,xs[i]?=some x->Pv i σ H->g x σ H fun σ2 H2=>tb { D with nx:=Pv (i+1),ct:=Pv (i+1),bk:=D.nx } σ2 H2) (hd:∀ σ H,Pv xs.length σ H->D.nx σ H):
  ∃W:Nat->Nat->St->Hp->Prop,(∃m,W 0 m σ H)/\∀i m σ H,W i m σ H ->
   ((Itt K a).stop i H/\D.nx σ H)\/((Itt K a).go i H/\∃N:St->Hp->Prop,(∀ σ' H',N σ' H'->∃m',m'<m/\W (i+1) m' σ' H')/\∀x H',(Itt K a).yld i H x H'->g x σ H' fun σ2 H2=>tb { D with nx:=N,ct:=N,bk:=D.nx } σ2 H2):=by
 refine⟨fun i m σ H=>m=xs.length-i/\i<=xs.length/\Pv i σ H,⟨xs.length,by simp,Nat.zero_le _,h0⟩,?_⟩
 rintro i m σ H ⟨rfl,hi,p⟩
 have q:=hl i σ H hi p
 by_cases hlt:i<xs.length
 ·refine .inr ⟨⟨xs,xs[i],q,by simp [hlt]⟩,Pv (i+1),fun σ' H' p'=>⟨xs.length-(i+1),by omega,rfl,hlt,p'⟩,fun x H' y=>?_⟩
  obtain⟨e,y⟩:=y
  subst e
  exact hs i x σ _ (y xs q) p
 ·have e:i=xs.length:=by omega
  subst e
  exact .inl ⟨⟨xs,q,Nat.le_refl _⟩,hd σ H p⟩
theorem iN {lo:Int} {n:Nat} {g:TG} {tb:TS} {D:jV} {σ:St} {H:Hp} (Pv:Nat->St->Hp->Prop) (h0:Pv 0 σ H)
  (hs:∀i σ H,i<n->Pv i σ H->g (.int (lo+i)) σ H fun σ2 H2=>tb { D with nx:=Pv (i+1),ct:=Pv (i+1),bk:=D.nx } σ2 H2) (hd:∀ σ H,Pv n σ H->D.nx σ H):
  ∃W:Nat->Nat->St->Hp->Prop,(∃m,W 0 m σ H)/\∀i m σ H,W i m σ H ->
   ((Itr lo n).stop i H/\D.nx σ H)\/((Itr lo n).go i H/\∃N:St->Hp->Prop,(∀ σ' H',N σ' H'->∃m',m'<m/\W (i+1) m' σ' H')/\∀x H',(Itr lo n).yld i H x H'->g x σ H' fun σ2 H2=>tb { D with nx:=N,ct:=N,bk:=D.nx } σ2 H2):=by
 refine⟨fun i m σ H=>m=n-i/\i<=n/\Pv i σ H,⟨n,by simp,Nat.zero_le _,h0⟩,?_⟩
 rintro i m σ H ⟨rfl,hi,p⟩
 by_cases hlt:i<n
 ·refine .inr ⟨hlt,Pv (i+1),fun σ' H' p'=>⟨n-(i+1),by omega,rfl,hlt,p'⟩,fun x H' y=>?_⟩
  obtain⟨e,y⟩:=y
  subst e y
  exact hs i σ _ hlt p
 ·have e:i=n:=by omega
  subst e
  exact .inl ⟨Nat.le_refl _,hd σ H p⟩
abbrev R2:=V->V->Hp->VK->Prop
def OpR (X:Cx) (f:Value->Value->Sem Value) (r:R2):Prop:=
 ∀(pins:List (Addr × Obj)) (s:Shared) (σ:St) (H:Hp) (x y:V) (v u:Value) (Q:VK),Inv X pins σ H s->cJ x v->cJ y u->r x y H Q ->
  wpAny (model X.prog X.w) X.A (f v u) (EP X pins σ Q) X.xe s
def UnR (X:Cx) (f:Value->Sem Value) (r:V->Hp->VK->Prop):Prop:=
 ∀(pins:List (Addr × Obj)) (s:Shared) (σ:St) (H:Hp) (x:V) (v:Value) (Q:VK),Inv X pins σ H s->cJ x v->r x H Q ->
  wpAny (model X.prog X.w) X.A (f v) (EP X pins σ Q) X.xe s
def eF (X:Cx) (f:Value) (r:List V->Hp->VK->Prop):Prop:=
 ∀(pins:List (Addr × Obj)) (s:Shared) (σ:St) (H:Hp) (xs:List V) (us:List Value) (Q:VK),Inv X pins σ H s->bY xs us->r xs H Q ->
  wpAny (model X.prog X.w) X.A (call f us) (EP X pins σ Q) X.xe s
def TruR (X:Cx) (r:V->Hp->(Bool->Hp->Prop)->Prop):Prop:=
 ∀(pins:List (Addr × Obj)) (s:Shared) (σ:St) (H:Hp) (x:V) (v:Value) (Q:Bool->Hp->Prop),Inv X pins σ H s->cJ x v->r x H Q ->
  wpAny (model X.prog X.w) X.A (truthy v) (TP X pins σ Q) X.xe s
def tOp (r:R2) (ta tb:TE):TE:=fun σ H Q=>ta σ H fun x H1=>tb σ H1 fun y H2=>r x y H2 Q
def tUn (r:V->Hp->VK->Prop) (ta:TE):TE:=fun σ H Q=>ta σ H fun x H1=>r x H1 Q
def rI (C:Int->Int->Prop) (g:Int->Int->V):R2:=fun x y H Q=>∃i j,x=.int i/\y=.int j/\C i j/\Q (g i j) H
def rI0 (g:Int->Int->V):R2:=fun x y H Q=>∃i j,x=.int i/\y=.int j/\Q (g i j) H
def rU (g:Int->V):V->Hp->VK->Prop:=fun x H Q=>∃i,x=.int i/\Q (g i) H
section
variable {X:Cx} {a b c:Expr} {ta tb tc:TE} {pos:Pos}
theorem binT (ha:PE X a ta) (hb:PE X b tb) {pins:List (Addr × Obj)} {s:Shared} {σ:St} {H:Hp} {R:V->V->Hp->Prop} (I:Inv X pins σ H s)
  (h:ta σ H fun x H1=>tb σ H1 fun y H2=>R x y H2) {Q:Value->Shared->Prop} {f:Value->Value->Sem Value}
  (hf:∀v u s2 x y H2,Inv X pins σ H2 s2->cJ x v->cJ y u->R x y H2->wpAny (model X.prog X.w) X.A (f v u) Q X.xe s2):
  wpAny (model X.prog X.w) X.A (eval a X.env) (fun v s₁=>wpAny (model X.prog X.w) X.A (eval b X.env) (fun u s₂=>wpAny (model X.prog X.w) X.A (f v u) Q X.xe s₂) X.xe s₁) X.xe s:=by
 refine thn (ha s σ H _ I h) fun v s1 ⟨x,H1,I1,r1,q1⟩=>?_
 refine thn (hb s1 σ H1 _ I1 q1) fun u s2 ⟨y,H2,I2,r2,q2⟩=>?_
 exact hf v u s2 x y H2 I2 r1 r2 q2
theorem aK {op:Operator} {r:R2} (ho:OpR X (binaryOp op) r) (ha:PE X a ta) (hb:PE X b tb):PE X (.BinOp a op b pos) (tOp r ta tb):=by
 intro pins s σ H Q I h
 exact wpAny_BinOp (binT ha hb I h fun v u s2 x y H2 I2 rx ry q=>ho pins s2 σ H2 x y v u Q I2 rx ry q)
theorem fT {op:UnaryOp} {r:V->Hp->VK->Prop} (ho:UnR X (unaryOp op) r) (ha:PE X a ta):PE X (.UnaryOp op a pos) (tUn r ta):=by
 intro pins s σ H Q I h
 exact UnaryOp_ (thn (ha s σ H _ I h) fun v s1 ⟨x,H1,I1,r1,q1⟩=>ho pins s1 σ H1 x v Q I1 r1 q1)
theorem opI {f:Value->Value->Sem Value} {C:Int->Int->Prop} {g:Int->Int->Int}
  (rule:∀(i j:Int) (t u:Tok) (s:Shared) (Q:Value->Shared->Prop) (E:Value->Shared->Prop),C i j->Q (.int (g i j) s.toks) { s with toks:=s.toks+1 }->wpAny (model X.prog X.w) X.A (f (.int i t) (.int j u)) Q E s):
  OpR X f (rI C fun i j=>.int (g i j)):=by
 intro pins s σ H x y v u Q I rx ry h
 obtain⟨i,j,rfl,rfl,hc,q⟩:=h
 obtain⟨t,rfl⟩:=rx
 obtain⟨t',rfl⟩:=ry
 exact rule i j t t' s _ _ hc ⟨.int (g i j),H,I.tok _,⟨_,rfl⟩,q⟩
theorem opI0 {f:Value->Value->Sem Value} {g:Int->Int->Int}
  (rule:∀(i j:Int) (t u:Tok) (s:Shared) (Q:Value->Shared->Prop) (E:Value->Shared->Prop),Q (.int (g i j) s.toks) { s with toks:=s.toks+1 }->wpAny (model X.prog X.w) X.A (f (.int i t) (.int j u)) Q E s):
  OpR X f (rI0 fun i j=>.int (g i j)):=by
 intro pins s σ H x y v u Q I rx ry h
 obtain⟨i,j,rfl,rfl,q⟩:=h
 obtain⟨t,rfl⟩:=rx
 obtain⟨t',rfl⟩:=ry
 exact rule i j t t' s _ _ ⟨.int (g i j),H,I.tok _,⟨_,rfl⟩,q⟩
theorem opB0 {f:Value->Value->Sem Value} {g:Int->Int->Bool}
  (rule:∀(i j:Int) (t u:Tok) (s:Shared) (Q:Value->Shared->Prop) (E:Value->Shared->Prop),Q (.bool (g i j)) s->wpAny (model X.prog X.w) X.A (f (.int i t) (.int j u)) Q E s):
  OpR X f (rI0 fun i j=>.bl (g i j)):=by
 intro pins s σ H x y v u Q I rx ry h
 obtain⟨i,j,rfl,rfl,q⟩:=h
 obtain⟨t,rfl⟩:=rx
 obtain⟨t',rfl⟩:=ry
 exact rule i j t t' s _ _ ⟨.bl (g i j),H,I,rfl,q⟩
def CDiv (i j:Int):Prop:=0<j/\j<1073741824
def rC (i j:Int):Prop:=0<=j/\j<=1000000/\i.natAbs<2 ^ 64
def CMul (i j:Int):Prop:=(-(2 ^ 64)<i/\i<2 ^ 64)\/(-(2 ^ 64)<j/\j<2 ^ 64)
theorem CMul.ok {i j:Int} (h:CMul i j):IntMulOk i j:=by
 rcases h with ⟨h1,h2⟩|⟨h1,h2⟩
 ·exact .of_left (intBits_le_64 h1 h2)
 ·exact .of_right (intBits_le_64 h1 h2)
theorem cM:OpR X (binaryOp .Add) (rI0 fun i j=>.int (i+j)):=opI0 fun _ _ _ _ _ _ _ q=>add_int q
theorem eV:OpR X (binaryOp .Sub) (rI0 fun i j=>.int (i-j)):=opI0 fun _ _ _ _ _ _ _ q=>sub_int q
theorem jC:OpR X (binaryOp .Mult) (rI CMul fun i j=>.int (i * j)):=opI fun _ _ _ _ _ _ _ hc q=>mul_int q hc.ok
theorem wC:OpR X (binaryOp .FloorDiv) (rI CDiv fun i j=>.int (i / j)):=opI fun i j _ _ _ _ _ hc q=>by
 have h1:(0:Int)<j:=hc.1
 have h2:j<1073741824:=hc.2
 exact floordiv_int (by omega) (by rw [Int.fdiv_eq_ediv_of_nonneg i (by omega)];exact q) (.inl (PyProof.noPylong_small (by omega)))
theorem iA:OpR X (binaryOp .Mod) (rI (fun _ j=>0<j) fun i j=>.int (i % j)):=opI fun i j _ _ _ _ _ hc q=>by
 have h1:(0:Int)<j:=hc
 exact mod_int' (by omega) (by rw [Int.fmod_eq_emod_of_nonneg i (by omega)];exact q)
theorem eK:OpR X (binaryOp .Pow) (rI rC fun i j=>.int (i ^ j.toNat)):=opI fun _ _ _ _ _ _ _ hc q=>pow_int_small hc.1 hc.2.1 hc.2.2 q
theorem unI {f:Value->Sem Value} {g:Int->Int}
  (rule:∀(i:Int) (t:Tok) (s:Shared) (Q:Value->Shared->Prop) (E:Value->Shared->Prop),Q (.int (g i) s.toks) { s with toks:=s.toks+1 }->wpAny (model X.prog X.w) X.A (f (.int i t)) Q E s):
  UnR X f (rU fun i=>.int (g i)):=by
 intro pins s σ H x v Q I rx h
 obtain⟨i,rfl,q⟩:=h
 obtain⟨t,rfl⟩:=rx
 exact rule i t s _ _ ⟨.int (g i),H,I.tok _,⟨_,rfl⟩,q⟩
theorem dW:UnR X (unaryOp .USub) (rU fun i=>.int (-i)):=unI fun _ _ _ _ _ q=>neg_int q
def scal:V->V->Bool
 | .non,.non=>true | .non,.int _=>true | .int _,.non=>true | .non,.bl _=>true | .bl _,.non=>true | .non,.str _=>true | .str _,.non=>true
 | .int _,.int _=>true | .bl _,.bl _=>true | .str _,.str _=>true | .byt _,.byt _=>true
 | .int _,.str _=>true | .str _,.int _=>true | .bl _,.str _=>true | .str _,.bl _=>true
 | _,_=>false
def rEq:R2:=fun x y H Q=>scal x y=true/\Q (.bl (decide (x=y))) H
def rNe:R2:=fun x y H Q=>scal x y=true/\Q (.bl (!decide (x=y))) H
theorem wT {i j:Int}:decide (V.int i=V.int j)=(i == j):=by
 rw [Bool.eq_iff_iff]
 simp
theorem AaT {i j:Bool}:decide (V.bl i=V.bl j)=(i == j):=by
 rw [Bool.eq_iff_iff]
 simp
theorem wS {i j:Str}:decide (V.str i=V.str j)=(i == j):=by
 rw [Bool.eq_iff_iff]
 simp
theorem wU {i j:Array UInt8}:decide (V.byt i=V.byt j)=(i.toList == j.toList):=by
 rw [Bool.eq_iff_iff]
 cases i
 cases j
 simp
theorem cH {pins:List (Addr × Obj)} {σ:St} {H:Hp} {s:Shared} {Q:VK} {k k':Bool} (I:Inv X pins σ H s) (q:Q (.bl k) H) (e:k=k'):EP X pins σ Q (.bool k') s:=by
 subst e
 exact⟨.bl k,H,I,rfl,q⟩
theorem dB:OpR X (compareOp .Eq) rEq:=by
 intro pins s σ H x y v u Q I rx ry h
 obtain⟨hs,q⟩:=h
 cases x with
 | non=>
  cases rx
  cases y with
  | non=>cases ry;exact PySem.EqNone.eq_none_none (cH I q (by simp))
  | bl j=>cases ry;exact PySem.EqNone.eq_none_bool (cH I q (by simp))
  | int j=>obtain⟨t',rfl⟩:=ry;exact PySem.EqNone.eq_none_int (cH I q (by simp))
  | str j=>obtain⟨t',rfl⟩:=ry;exact PySem.EqNone.eq_none_str (cH I q (by simp))
  | _=>exact absurd (show false=true from hs) Bool.false_ne_true
 | bl i=>
  cases rx
  cases y with
  | non=>cases ry;exact PySem.EqNone.eq_bool_none (cH I q (by simp))
  | bl j=>cases ry;exact eq_bool (cH I q AaT)
  | str j=>obtain⟨t',rfl⟩:=ry;exact PySem.EqMixed.eq_bool_str (cH I q (by simp))
  | _=>exact absurd (show false=true from hs) Bool.false_ne_true
 | int i=>
  obtain⟨t,rfl⟩:=rx
  cases y with
  | non=>cases ry;exact PySem.EqNone.eq_int_none (cH I q (by simp))
  | int j=>obtain⟨t',rfl⟩:=ry;exact eq_int (cH I q wT)
  | str j=>obtain⟨t',rfl⟩:=ry;exact PySem.EqMixed.eq_int_str (cH I q (by simp))
  | _=>exact absurd (show false=true from hs) Bool.false_ne_true
 | str i=>
  obtain⟨t,rfl⟩:=rx
  cases y with
  | non=>cases ry;exact PySem.EqNone.eq_str_none (cH I q (by simp))
  | bl j=>cases ry;exact PySem.EqMixed.eq_str_bool (cH I q (by simp))
  | int j=>obtain⟨t',rfl⟩:=ry;exact PySem.EqMixed.eq_str_int (cH I q (by simp))
  | str j=>obtain⟨t',rfl⟩:=ry;exact eq_str (cH I q wS)
  | _=>exact absurd (show false=true from hs) Bool.false_ne_true
 | byt i=>
  obtain⟨t,rfl⟩:=rx
  cases y with
  | byt j=>obtain⟨t',rfl⟩:=ry;exact PySem.W.eq_bytes (cH I q wU)
  | _=>exact absurd (show false=true from hs) Bool.false_ne_true
 | _=>cases y <;> exact absurd (show false=true from hs) Bool.false_ne_true
theorem kK:OpR X (compareOp .NotEq) rNe:=by
 intro pins s σ H x y v u Q I rx ry h
 obtain⟨hs,q⟩:=h
 cases x with
 | non=>
  cases rx
  cases y with
  | non=>cases ry;exact PySem.EqNone.ne_none_none (cH I q (by simp))
  | bl j=>cases ry;exact PySem.EqNone.ne_none_bool (cH I q (by simp))
  | int j=>obtain⟨t',rfl⟩:=ry;exact PySem.EqNone.ne_none_int (cH I q (by simp))
  | str j=>obtain⟨t',rfl⟩:=ry;exact PySem.EqNone.ne_none_str (cH I q (by simp))
  | _=>exact absurd (show false=true from hs) Bool.false_ne_true
 | bl i=>
  cases rx
  cases y with
  | non=>cases ry;exact PySem.EqNone.ne_bool_none (cH I q (by simp))
  | bl j=>cases ry;exact ne_bool (cH I q (congrArg not AaT))
  | str j=>obtain⟨t',rfl⟩:=ry;exact PySem.EqMixed.ne_bool_str (cH I q (by simp))
  | _=>exact absurd (show false=true from hs) Bool.false_ne_true
 | int i=>
  obtain⟨t,rfl⟩:=rx
  cases y with
  | non=>cases ry;exact PySem.EqNone.ne_int_none (cH I q (by simp))
  | int j=>obtain⟨t',rfl⟩:=ry;exact ne_int (cH I q (congrArg not wT))
  | str j=>obtain⟨t',rfl⟩:=ry;exact PySem.EqMixed.ne_int_str (cH I q (by simp))
  | _=>exact absurd (show false=true from hs) Bool.false_ne_true
 | str i=>
  obtain⟨t,rfl⟩:=rx
  cases y with
  | non=>cases ry;exact PySem.EqNone.ne_str_none (cH I q (by simp))
  | bl j=>cases ry;exact PySem.EqMixed.ne_str_bool (cH I q (by simp))
  | int j=>obtain⟨t',rfl⟩:=ry;exact PySem.EqMixed.ne_str_int (cH I q (by simp))
  | str j=>obtain⟨t',rfl⟩:=ry;exact ne_str (cH I q (congrArg not wS))
  | _=>exact absurd (show false=true from hs) Bool.false_ne_true
 | byt i=>
  obtain⟨t,rfl⟩:=rx
  cases y with
  | byt j=>obtain⟨t',rfl⟩:=ry;exact PySem.W.ne_bytes (cH I q (congrArg not wU))
  | _=>exact absurd (show false=true from hs) Bool.false_ne_true
 | _=>cases y <;> exact absurd (show false=true from hs) Bool.false_ne_true
theorem iT:OpR X (compareOp .Lt) (rI0 fun i j=>.bl (decide (i<j))):=opB0 fun _ _ _ _ _ _ _ q=>lt_int q
theorem wB:OpR X (compareOp .LtE) (rI0 fun i j=>.bl (decide (i<=j))):=opB0 fun _ _ _ _ _ _ _ q=>le_int q
theorem sJ:OpR X (compareOp .Gt) (rI0 fun i j=>.bl (decide (j<i))):=opB0 fun _ _ _ _ _ _ _ q=>gt_int q
theorem sK:OpR X (compareOp .GtE) (rI0 fun i j=>.bl (decide (j<=i))):=opB0 fun _ _ _ _ _ _ _ q=>ge_int q
theorem op_isN:OpR X (compareOp .Is) (fun x y H Q=>y=.non/\Q (.bl (decide (x=.non))) H):=by
 intro pins s σ H x y v u Q I rx ry h
 obtain⟨rfl,q⟩:=h
 cases ry
 refine is_none_gen (cH I q ?_)
 cases x <;> first
  | (cases rx;rfl)
  | (obtain⟨t,rfl⟩:=rx;rfl)
theorem op_notN:OpR X (compareOp .IsNot) (fun x y H Q=>y=.non/\Q (.bl (!decide (x=.non))) H):=by
 intro pins s σ H x y v u Q I rx ry h
 obtain⟨rfl,q⟩:=h
 cases ry
 refine isnot_none_gen (cH I q ?_)
 cases x <;> first
  | (cases rx;rfl)
  | (obtain⟨t,rfl⟩:=rx;rfl)
theorem qI:OpR X (compareOp .NotIn) (fun x y H Q=>∃i j,x=.str i/\y=.str j/\Q (.bl (!(!(Builtin.Str.occurrences j i 0 j.length 1).isEmpty))) H):=by
 intro pins s σ H x y v u Q I rx ry h
 obtain⟨i,j,rfl,rfl,q⟩:=h
 obtain⟨t,rfl⟩:=rx
 obtain⟨t',rfl⟩:=ry
 exact notIn_str (cH I q rfl)
theorem bF (b:Expr) {op:CmpOp} (h:op≠.In:=by decide) (h2:op≠.NotIn:=by decide):behindInMarks op b=false:=by
 have e1:(op == CmpOp.In)=false:=by cases op <;> first|rfl|exact absurd rfl h
 have e2:(op == CmpOp.NotIn)=false:=by cases op <;> first|rfl|exact absurd rfl h2
 cases b <;> simp [behindInMarks,e1,e2]
theorem dN {op:CmpOp} {r:R2} (ho:OpR X (compareOp op) r) (ha:PE X a ta) (hb:PE X b tb) (hm:behindInMarks op b=false):PE X (.Compare a [op] [b] pos) (tOp r ta tb):=by
 intro pins s σ H Q I h
 exact wpAny_Compare1 (binT ha hb I h fun v u s2 x y H2 I2 rx ry q=>ho pins s2 σ H2 x y v u Q I2 rx ry q) hm
def vJ (t:TE):TT:=fun σ H Q=>t σ H fun x H'=>∃k,x=.bl k/\Q k H'
theorem aS {op:CmpOp} {r:R2} (ho:OpR X (compareOp op) r) (ha:PE X a ta) (hb:PE X b tb) (hm:behindInMarks op b=false):PT X (.Compare a [op] [b] pos) (vJ (tOp r ta tb)):=by
 intro pins s σ H Q I h
 refine wpAny_isTrue_Compare1 (thn (ha s σ H _ I h) fun v s1 ⟨x,H1,I1,r1,q1⟩=>thn (hb s1 σ H1 _ I1 q1) fun u s2 ⟨y,H2,I2,r2,q2⟩=>
  thn (ho pins s2 σ H2 x y v u _ I2 r1 r2 q2) fun c s3 ⟨z,H3,I3,r3,k,e,q3⟩=>?_) hm
 subst e
 cases r3
 exact wpAny_truthy_bool ⟨H3,I3,q3⟩
def pJ (r r':R2) (ta tb tc:TE):TE:=fun σ H Q=>ta σ H fun x H1=>tb σ H1 fun y H2=>r x y H2 fun z H3=>∃k,z=.bl k /\
 (if k=true then tc σ H3 fun w' H4=>r' y w' H4 Q else Q (.bl false) H3)
theorem sH {op op':CmpOp} {r r':R2} (ho:OpR X (compareOp op) r) (ho':OpR X (compareOp op') r') (ha:PE X a ta) (hb:PE X b tb) (hc:PE X c tc)
  (hm:lastMarks [op,op'] [b,c]=false:=by with_unfolding_all rfl):PE X (.Compare a [op,op'] [b,c] pos) (pJ r r' ta tb tc):=by
 intro pins s σ H Q I h
 refine Compare_chain (thn (ha s σ H _ I h) fun v s1 ⟨x,H1,I1,r1,q1⟩=>chain_link (thn (hb s1 σ H1 _ I1 q1) fun u s2 ⟨y,H2,I2,r2,q2⟩=>
  thn (ho pins s2 σ H2 x y v u _ I2 r1 r2 q2) fun d s3 ⟨z,H3,I3,r3,k,e,q3⟩=>?_)) hm
 subst e
 cases r3
 refine wpAny_truthy_bool ?_
 cases k with
 | false=>exact ite_ff ⟨.bl false,H3,I3,rfl,q3⟩
 | true=>exact ite_tt (chain_last (thn (hc s3 σ H3 _ I3 q3) fun w' s4 ⟨z',H4,I4,r4,q4⟩=>ho' pins s4 σ H4 y z' u w' Q I4 r2 r4 q4))
theorem rX {op op':CmpOp} {r r':R2} (ho:OpR X (compareOp op) r) (ho':OpR X (compareOp op') r') (ha:PE X a ta) (hb:PE X b tb) (hc:PE X c tc)
  (hm:lastMarks [op,op'] [b,c]=false:=by with_unfolding_all rfl):PT X (.Compare a [op,op'] [b,c] pos) (vJ (pJ r r' ta tb tc)):=by
 intro pins s σ H Q I h
 refine isTrue_chain (thn (ha s σ H _ I h) fun v s1 ⟨x,H1,I1,r1,q1⟩=>test_link (thn (hb s1 σ H1 _ I1 q1) fun u s2 ⟨y,H2,I2,r2,q2⟩=>
  thn (ho pins s2 σ H2 x y v u _ I2 r1 r2 q2) fun d s3 ⟨z,H3,I3,r3,k,e,q3⟩=>?_)) hm
 subst e
 cases r3
 refine wpAny_truthy_bool ?_
 cases k with
 | false=>
  obtain⟨k',e',q'⟩:=q3
  cases e'
  exact ite_ff ⟨H3,I3,q'⟩
 | true=>
  refine ite_tt (test_last (thn (hc s3 σ H3 _ I3 q3) fun w' s4 ⟨z',H4,I4,r4,q4⟩=>thn (ho' pins s4 σ H4 y z' u w' _ I4 r2 r4 q4) fun d' s5 ⟨z2,H5,I5,r5,k2,e2,q5⟩=>?_))
  subst e2
  cases r5
  exact wpAny_truthy_bool ⟨H5,I5,q5⟩
def TruV (K:PySem.W.Frag) (x:V) (H:Hp) (k:Bool):Prop:=
 match x with
 | .non=>k=false
 | .bl b=>k=b
 | .int i=>k=(i != 0)
 | .str y=>y.length<=sizeLine/\k=((y.length:Int) != 0)
 | .byt y=>y.size<=sizeLine/\k=((y.size:Int) != 0)
 | .ref p=>(∃xs,SqL K H p xs/\k=!xs.isEmpty)\/(∃xs,SqT K H p xs/\k=!xs.isEmpty)\/∃kvs,H p=some (.dK kvs)/\k=!kvs.isEmpty
 | _=>False
theorem vB {κ:Type} {kvs:List (κ × V)} {vs:List (κ × Value)} (r:KV kvs vs):(!vs.isEmpty)=!kvs.isEmpty:=by
 cases r <;> rfl
theorem nA {xs:List V} {its:List Value} (r:bY xs its):(!its.toArray.isEmpty)=!xs.isEmpty:=by
 cases r <;> simp
theorem jD:(sizeLine:Nat)<2 ^ 63:=by rw [sizeLine_eq];decide
theorem tru_ok:TruR X (fun x H Q=>∃k,TruV X.K x H k/\Q k H):=by
 intro pins s σ H x v Q I rx h
 obtain⟨k,e,q⟩:=h
 have hl:=jD
 have hs:sizeLine=16777216:=sizeLine_eq
 cases x with
 | non=>
  cases rx
  have e':k=false:=e
  subst e'
  exact truthy_none ⟨H,I,q⟩
 | bl b=>
  cases rx
  have e':k=b:=e
  subst e'
  exact wpAny_truthy_bool ⟨H,I,q⟩
 | int i=>
  obtain⟨t,rfl⟩:=rx
  have e':k=(i != 0):=e
  subst e'
  exact PySem.P.truthy_int ⟨H,I,q⟩
 | str y=>
  obtain⟨t,rfl⟩:=rx
  obtain⟨hy,e'⟩:y.length<=sizeLine/\k=((y.length:Int) != 0):=e
  subst e'
  exact PySem.P.truthy_str (by omega) ⟨H,I.tok _,q⟩
 | byt y=>
  obtain⟨t,rfl⟩:=rx
  obtain⟨hy,e'⟩:y.size<=sizeLine/\k=((y.size:Int) != 0):=e
  subst e'
  exact PySem.W.truthy_bytes (by omega) ⟨H,I.tok _,q⟩
 | ref p=>
  cases rx
  have e':(∃xs,SqL X.K H p xs/\k=!xs.isEmpty)\/(∃xs,SqT X.K H p xs/\k=!xs.isEmpty)\/∃kvs,H p=some (.dK kvs)/\k=!kvs.isEmpty:=e
  rcases e' with ⟨xs,hx,e'⟩|⟨xs,hx,e'⟩|⟨kvs,hx,e'⟩
  ·subst e'
   obtain⟨its,r,pl,hz⟩:=I.list hx
   have hlen:=r.length
   exact wpAny_truthy_list pl.isList (by simp only [List.size_toArray];omega) ⟨H,I.tok _,by rw [nA r];exact q⟩
  ·subst e'
   obtain⟨its,r,pl,hz⟩:=I.tuple hx
   have hlen:=r.length
   exact truthy_tuple pl (by simp only [List.size_toArray];omega) ⟨H,I.tok _,by rw [nA r];exact q⟩
  ·subst e'
   obtain⟨hz,hS,vs,r,m⟩:kvs.length<=sizeLine/\(p == sysModules)=false/\∃vs,KV kvs vs/\s.heap.DictOf (cV X.prog X.w) p vs:=I.hok p _ hx
   have hlen:kvs.length=vs.length:=Paired.length r
   exact wpAny_truthy_dict hS m (by omega) ⟨H,I.tok _,by rw [vB r];exact q⟩
 | _=>exact(show False from e).elim
theorem rW (ha:PE X a ta) (he:∀whole,isTrue a X.env whole=(do let v <- whole;standAt a.pos;holding [v] (truthy v))):
  PT X a (fun σ H Q=>ta σ H fun x H'=>∃k,TruV X.K x H' k/\Q k H'):=by
 intro pins s σ H Q I h
 exact isTrue_plain (thn (ha s σ H _ I h) fun v s1 ⟨x,H1,I1,r1,q1⟩=>tru_ok pins s1 σ H1 x v Q I1 r1 q1) (he _)
theorem dM:OpR X (binaryOp .Add) (fun x y H Q=>∃i j,x=.str i/\y=.str j/\i.length+j.length<=sizeLine/\Q (.str (i++j)) H):=by
 intro pins s σ H x y v u Q I rx ry h
 obtain⟨i,j,rfl,rfl,hz,q⟩:=h
 obtain⟨t,rfl⟩:=rx
 obtain⟨t',rfl⟩:=ry
 exact add_str (fun t' tk=>⟨.str (i++j),H,I.tok _,⟨_,rfl⟩,q⟩) hz
def AbB (b:Expr):Prop:=∀o i,subscripted b false o i=operate [o,i] (getItem o i)
theorem sE (ha:PE X a ta) (hb:PE X b tb) (hs:AbB b):
  PE X (.Subscript a b pos) (tOp (fun x y H Q=>∃z i c,x=.str z/\y=.int i/\0<=i/\i<2 ^ 63/\i<z.length/\z.cps[i.toNat]?=some c/\Q (.str ⟨#[c]⟩) H) ta tb):=by
 intro pins s σ H Q I h
 refine Subscript_ (binT ha hb I h fun v u s2 x y H2 I2 rx ry q=>?_)
 obtain⟨z,i,c,rfl,rfl,h0,h63,h1,hc,q⟩:=q
 obtain⟨t,rfl⟩:=rx
 obtain⟨t',rfl⟩:=ry
 have e:seqIndex? i z.length=some i.toNat:=PySem.StrLaws.seqIndex_nonneg h0 h1
 exact tail_any (typeIs_str s2 z t) slot_str_getitem.lookup (getItem_str (c:=c) (by
  have e1:decide (i < -(2 ^ 63:Int))=false:=decide_eq_false (by omega)
  have e2:decide (i ≥ 2 ^ 63)=false:=decide_eq_false (by omega)
  rw [e1,e2] <;> rfl) (by rw [e];exact hc) ⟨.str ⟨#[c]⟩,H2,I2.tok _,⟨_,rfl⟩,q⟩) (hs _ _)
theorem gY {x:V} {us:List Value} (r:bY [x] us):∃u,us=[u]/\cJ x u:=by
 cases r with
 | cons r1 r2=>cases r2;exact⟨_,rfl,r1⟩
theorem vH {x y:V} {us:List Value} (r:bY [x,y] us):∃u w',us=[u,w']/\cJ x u/\cJ y w':=by
 cases r with
 | cons r1 r2=>
  cases r2 with
  | cons r3 r4=>cases r4;exact⟨_,_,rfl,r1,r3⟩
theorem oZ (hc:X.calm=true):eF X (.builtin "max") (fun xs H Q=>∃i j,xs=[.int i,.int j]/\Q (.int (if j > i then j else i)) H):=by
 intro pins s σ H xs us Q I r h
 obtain⟨i,j,rfl,q⟩:=h
 obtain⟨u,w',rfl,⟨t,rfl⟩,⟨t',rfl⟩⟩:=vH r
 refine max_two_ints (I.ok.hd hc) fun h' tk k=>⟨_,H,I.kept k,?_,q⟩
 by_cases hj:j > i
 ·rw [if_pos hj,if_pos hj];exact⟨_,rfl⟩
 ·rw [if_neg hj,if_neg hj];exact⟨_,rfl⟩
theorem gO:eF X (.type "int") (fun xs H Q=>(∃i,xs=[.int i]/\Q (.int i) H)\/∃k,xs=[.bl k]/\Q (.int (if k then 1 else 0)) H):=by
 intro pins s σ H xs us Q I r h
 rcases h with ⟨i,rfl,q⟩|⟨k,rfl,q⟩
 ·obtain⟨u,rfl,t,rfl⟩:=gY r
  exact call_int_int ⟨.int i,H,I,⟨_,rfl⟩,q⟩
 ·obtain⟨u,rfl,r1⟩:=gY r
  cases r1
  exact call_int_bool ⟨.int (if k then 1 else 0),H,I.tok _,⟨_,rfl⟩,q⟩
theorem qU:eF X (.type "str") (fun xs H Q=>∃i,xs=[.int i]/\i.natAbs.log2<1920/\Q (.str (toString i)) H):=by
 intro pins s σ H xs us Q I r h
 obtain⟨i,rfl,hz,q⟩:=h
 obtain⟨u,rfl,t,rfl⟩:=gY r
 exact PySem.P.str_of_int hz ⟨.str _,H,I.tok _,⟨_,rfl⟩,q⟩
end
structure ObjM (h:Heap) (x dx C:Addr) (mA:Str->Option Value):Prop where
 obj:h.get? x=some (PySem.W.instObj C dx)
 ns:h.Ns1 dx mA
 ne:dx≠x
theorem xO {h:Heap} {dx:Addr} {mA:Str->Option Value} (n:h.Ns1 dx mA):∃od,h.get? dx=some od/\∀name,PySem.W.lookIn name od=some (mA name):=by
 obtain⟨o,es,ep,ho,hd,hk,_,hm⟩:=n
 refine⟨o,ho,fun name=>?_⟩
 have e:=hm name
 unfold nsFind findBy at e
 rw [<- Array.find?_toList] at e
 unfold PySem.W.lookIn
 rw [hd]
 dsimp only
 split
 ·rename_i y q
  rw [q] at e
  exact congrArg some e
 ·rename_i q
  rw [q] at e
  have a:es.toList.any (·.refKey)=false:=by
   rw [List.any_eq_false]
   intro y hy
   obtain⟨z,t,hkey⟩:=hk y (Array.mem_toList_iff.mp hy)
   simp [DictEntry.refKey,hkey]
  have a':¬ es.toList.any (·.refKey)=true:=by rw [a];exact Bool.false_ne_true
  rw [if_neg a']
  exact congrArg some e
theorem ObjM.look {h:Heap} {x dx C:Addr} {mA:Str->Option Value} (I:ObjM h x dx C mA):∃od,PySem.W.InstAt h x (PySem.W.instObj C dx) C (some od)/\∀name,PySem.W.lookIn name od=some (mA name):=
 let ⟨od,ho,hl⟩:=xO I.ns
 ⟨od,⟨I.obj,rfl,rfl,ho⟩,hl⟩
section
variable {prog:Program} {w:World} {A:Around} {E:Value->Shared->Prop} {s:Shared} {K:PySem.W.Frag} {x dx C f:Addr} {mA:Str->Option Value} {name:Str} {v:Value}
end
section
variable {P:Program} {w:World} {H H':Hp} {h h':Heap} {a C dx:Addr} {fs fs':List (Str × V)}
theorem ins_get (hok:HOk P w H h) (e:H a=some (.ins C dx fs)):∃mA,ObjM h a dx C mA/\(∀f,RelO (fs.lookup f) (mA f))/\PySem.Within mA (fs.map (·.1))/\fs.length<=1000/\H dx=some (.own a):=by
 obtain⟨d,z,ne,ob,mA,n,r,q⟩:=(show cP P w H h a (.ins C dx fs) from hok a _ e)
 exact⟨mA,⟨ob,n,ne⟩,r,q,z,d⟩
end
structure Cls (K:PySem.W.Frag) (C:Addr):Prop where
 pg:PySem.W.plainGet K C Str.empty=true
 hd:PySem.W.hasDictIn K C=true
 po:PySem.W.plainOver K C=true
 sa:PySem.W.findIn K (.ref C) "__setattr__"=some (some (.builtin "object.__setattr__"))
theorem Cls.get {K:PySem.W.Frag} {C:Addr} (c:Cls K C) (f:Str):PySem.W.plainGet K C f=true:=c.pg
section
variable {X:Cx} {pins:List (Addr × Obj)} {σ:St} {H:Hp} {s:Shared} {a C dx:Addr} {fs:List (Str × V)} {f:Str} {v:V} {A:Around} {E:Value->Shared->Prop}
end
section
variable {X:Cx} {o e value:Expr} {f:Str} {pos pos' tpos:Pos} {ta tv:TE}
end
section
variable {X:Cx} {pins:List (Addr × Obj)} {σ:St} {H:Hp} {s:Shared} {A:Around} {E:Value->Shared->Prop} {Q:Value->Shared->Prop} {c:Value} {b:Bool}
inductive gW (K:PySem.W.Frag) (H:Hp):V->Value->Prop where
 | non:gW K H .non (.type "NoneType")
 | bl (x:Bool):gW K H (.bl x) (.type "bool")
 | int (i:Int):gW K H (.int i) (.type "int")
 | str (x:Str):gW K H (.str x) (.type "str")
 | flt (x:UInt64):gW K H (.flt x) (.type "float")
 | lst {a:Addr} {xs:List V} (e:H a=some (.lst xs)):gW K H (.ref a) (.type "list")
 | frz {a:Addr} {o:Obj} {xs:List V} (e:H a=some (.frz o (.lst xs))):gW K H (.ref a) (.type "list")
 | tup {a:Addr} {xs:List V} (e:H a=some (.tup xs)):gW K H (.ref a) (.type "tuple")
 | dK {a:Addr} {kvs:List (Key × V)} (e:H a=some (.dK kvs)):gW K H (.ref a) (.type "dict")
 | dT {a:Addr} {kvs:List (List Key × V)} (e:H a=some (.dT kvs)):gW K H (.ref a) (.type "dict")
 | ins {a C dx:Addr} {fs:List (Str × V)} (e:H a=some (.ins C dx fs)) (cl:Cls K C) (ha:PySem.W.findIn K (.ref C) "__class__"=some (some (.builtin "object.__class__")))
   (hn:PySem.W.specialIn K (.builtin "object.__class__") "__get__"=some (some (.builtin "getset_descriptor.__get__"))) (htk:PySem.W.takesIn K (.builtin "object.__class__")=some true)
   (hm:PySem.W.mroIn K C (.type "object")=some true):gW K H (.ref a) (.ref C)
theorem xR {x:V} {u t:Value} (I:Inv X pins σ H s) (rx:cJ x u) (ty:gW X.K H x t) (e:PySem.W.kitOne X.K t c=some b) (h:∀tk,Q (.bool b) { s with toks:=tk }):
  wpAny (model X.prog X.w) A (call (.builtin "isinstance") [u,c]) Q E s:=by
 cases ty with
 | non=>cases (show u=Value.none from rx);exact PySem.W.kia_one PySem.W.kitx_none I.kIn True.intro e (fun z=>nomatch z) h
 | bl y=>cases (show u=Value.bool y from rx);exact PySem.W.kia_one PySem.W.kitx_bool I.kIn True.intro e (fun z=>nomatch z) h
 | int i=>obtain⟨t,q⟩:=(show ∃t,u=Value.int i t from rx);cases q;exact PySem.W.kia_one PySem.W.kitx_int I.kIn True.intro e (fun z=>nomatch z) h
 | str y=>obtain⟨t,q⟩:=(show ∃t,u=Value.str y t from rx);cases q;exact PySem.W.kia_one PySem.W.kitx_str I.kIn True.intro e (fun z=>nomatch z) h
 | flt y=>obtain⟨t,q⟩:=(show ∃t,u=Value.float y t from rx);cases q;exact PySem.W.kia_one PySem.W.kitx_float I.kIn True.intro e (fun z=>nomatch z) h
 | @lst a xs ea=>
  cases (show u=Value.ref a from rx)
  obtain⟨_,_,n,_,h1⟩:=(show cP X.prog X.w H s.heap a (.lst xs) from I.hok a _ ea)
  exact PySem.W.kia_one PySem.W.kitx_list I.kIn ⟨_,h1,rfl⟩ e (fun z=>nomatch z) h
 | @frz a ob xs ea=>
  cases (show u=Value.ref a from rx)
  obtain⟨_,_,_,n,_,h1⟩:=(show cP X.prog X.w H s.heap a (.frz ob (.lst xs)) from I.hok a _ ea)
  exact PySem.W.kia_one PySem.W.kitx_list I.kIn ⟨_,h1,rfl⟩ e (fun z=>nomatch z) h
 | @tup a xs ea=>
  cases (show u=Value.ref a from rx)
  obtain⟨_,_,_,p⟩:=(show cP X.prog X.w H s.heap a (.tup xs) from I.hok a _ ea)
  obtain⟨o,h1,h2,_⟩:=p
  exact PySem.W.kia_one PySem.W.kitx_tuple I.kIn ⟨o,h1,h2⟩ e (fun z=>nomatch z) h
 | @dK a kvs ea=>
  cases (show u=Value.ref a from rx)
  obtain⟨_,_,vs,_,p⟩:=(show cP X.prog X.w H s.heap a (.dK kvs) from I.hok a _ ea)
  obtain⟨o,es,ep,h1,h2,_⟩:=p
  exact PySem.W.kia_one PySem.W.kitx_dict I.kIn ⟨o,h1,h2.1⟩ e (fun z=>nomatch z) h
 | @dT a kvs ea=>
  cases (show u=Value.ref a from rx)
  obtain⟨_,_,xs,_,o,es,ep,h1,h2,_⟩:=(show cP X.prog X.w H s.heap a (.dT kvs) from I.hok a _ ea)
  exact PySem.W.kia_one PySem.W.kitx_dict I.kIn ⟨o,h1,h2.1⟩ e (fun z=>nomatch z) h
 | @ins a C dx fs ea cl ha hn htk hm=>
  cases (show u=Value.ref a from rx)
  obtain⟨mA,O,_⟩:=ins_get I.hok ea
  obtain⟨od,J,_⟩:=O.look
  exact PySem.W.kia_one (PySem.W.kitx_own (cl.get _) cl.hd ha hn htk hm) I.kIn J e (fun z=>nomatch z) h
end
structure eS (k:Nat) (A:Around):Prop where
 hd:A.handled=none
 dp:A.depth+3 * k+5<recursionLimit
 un:A.units+16 * k+200<cLine
theorem eS.mono {j k:Nat} {A:Around} (r:eS k A) (h:j<=k):eS j A:=⟨r.hd,by have:=r.dp;omega,by have:=r.un;omega⟩
theorem eS.deeper {k:Nat} {A:Around} (r:eS (k+1) A) (env:Env):eS k (A.deeper env):=
 ⟨r.hd,by have:=r.dp;show A.depth+1+3 * k+5<_;omega,by have:=r.un;show A.units+3+16 * k+200<_;omega⟩
theorem eS.depth {k:Nat} {A:Around} (r:eS k A):A.depth<recursionLimit:=by have:=r.dp;omega
theorem eS.units {k:Nat} {A:Around} (r:eS k A):A.units+64<cLine:=by have:=r.un;omega
def kT:TA:=fun _ H Q=>Q [] H
def gG (ta:TE) (tr:TA):TA:=fun σ H Q=>ta σ H fun x H1=>tr σ H1 fun xs H2=>Q (x::xs) H2
section
variable {X:Cx} {e:Expr} {es:List Expr} {te:TE} {t:TA} {pos:Pos}
theorem aB:PA X [] kT:=fun _ _ _ _ H Q I h=>Calls.spliced_nil ⟨[],H,I,.nil,h⟩
theorem aA (ha:PE X e te) (hr:PA X es t) (hs:starEach (e::es) X.env=(false,eval e X.env)::starEach es X.env:=by rfl):PA X (e::es) (gG te t):=by
 intro pos pins s σ H Q I h
 rw [hs]
 show wpAny _ _ (spliced ((false,eval e X.env)::backTo pos (starEach es X.env))) _ _ s
 refine Calls.spliced_cons (thn (ha s σ H _ I h) fun u s1 ⟨x,H1,I1,r1,q1⟩=>?_)
 exact thn (hr pins s1 σ H1 _ I1 q1) fun us s2 ⟨xs,H2,I2,r2,q2⟩=>⟨x::xs,H2,I2,.cons r1 r2,q2⟩
def tTup (t:TA):TE:=fun σ H Q=>t σ H fun xs H1=>xs.length<=sizeLine/\∀p,H1 p=none->Q (.ref p) (upd H1 p (.tup xs))
def tLst (t:TA):TE:=fun σ H Q=>t σ H fun xs H1=>xs.length<=sizeLine/\∀p,H1 p=none->Q (.ref p) (upd H1 p (.lst xs))
theorem bZ {x1} (h:PA X es t):PE X (.Tuple es x1 pos) (tTup t):=by
 intro pins s σ H Q I hq
 refine wpAny_Tuple_spliced (thn (h pins s σ H _ I hq) fun us s1 ⟨xs,H1,I1,r,z,q⟩=>⟨by rw [<- r.length];exact z,?_⟩)
 have hf:H1 s1.heap.objs.size=none:=I1.hok.fresh (Nat.le_refl _)
 refine⟨.ref s1.heap.objs.size,upd H1 s1.heap.objs.size (.tup xs),I1.laid (t':=s1.toks) (fun b u e=>Heap.get?_push_of_some _ e) (Nat.le_refl _) ?_,rfl,q _ hf⟩
 exact⟨z,us,r,⟨_,Heap.get?_push_size _ rfl,rfl,_,rfl⟩⟩
theorem bU (h:PA X es t):PE X (.List es pos) (tLst t):=by
 intro pins s σ H Q I hq
 refine wpAny_List_spliced (thn (h pins s σ H _ I hq) fun us s1 ⟨xs,H1,I1,r,z,q⟩=>⟨by rw [<- r.length];exact z,?_⟩)
 have hf:H1 s1.heap.objs.size=none:=I1.hok.fresh (Nat.le_refl _)
 refine⟨.ref s1.heap.objs.size,upd H1 s1.heap.objs.size (.lst xs),I1.laid (t':=s1.toks) (fun b u e=>Heap.get?_push_of_some _ e) (Nat.le_refl _) ?_,rfl,q _ hf⟩
 exact⟨z,us,0,r,Heap.get?_push_size _ rfl⟩
end
abbrev Sp:=List V->Hp->VK->XK->Prop
abbrev CXT:=List Env->Hp->Shared->XK->Value->Shared->Prop
structure Env0 (P:Program) (w:World) (K:PySem.W.Frag) (mg:Str->Option Value) (base:Heap) (A:Around) (outer:List Env) (s:Shared) (H:Hp):Prop where
 frames:A.frames=some outer
 mod:Mod K mg base
 bs:∀b o,base.get? b=some o->s.heap.get? b=some o/\H b=none
 bsz:base.objs.size<=s.heap.objs.size
 funs:s.heap.FunFrames base outer
 frf:∀b ∈ frs outer,H b=none
 hok:HOk P w H s.heap
 bare:AllBare s.gens
def CE (outer:List Env) (P:Program) (w:World) (H:Hp) (s:Shared) (Q:VK) (u:Value) (s':Shared):Prop:=
 ∃v H',s'.os=s.os/\AllBare s'.gens/\Un (frs outer) [] H H' s.heap s'.heap/\HOk P w H' s'.heap/\cJ v u/\Q v H'
def CR (CX:CXT) (outer:List Env) (P:Program) (w:World) (H:Hp) (s:Shared) (Q:VK) (E:XK) (r:Result) (s':Shared):Prop:=
 match r with
 | .ok (.ret u)=>CE outer P w H s Q u s'
 | .ok _=>False
 | .error e=>CX outer H s E e s'
structure aY (P:Program) (w:World) (K:PySem.W.Frag) (mg:Str->Option Value) (base:Heap) (CX:CXT) (k:Nat) (f:Addr) (fd:FuncData) (ps:List Str) (sp:Sp):Prop where
 len:∀vs H Q E,sp vs H Q E->vs.length=ps.length
 run:∀(A:Around) (outer:List Env) (s:Shared) (H:Hp) (args:Args) (us:List Value) (vs:List V) (Q:VK) (E:XK),eS k A->Env0 P w K mg base A outer s H->BindsTo s fd args (ps.zip us)->bY vs us->sp vs H Q E ->
  codeAny (model P w) A (.call (.ref f) args) (CR CX outer P w H s Q E) s
theorem aY.mono {P:Program} {w:World} {K:PySem.W.Frag} {mg:Str->Option Value} {base:Heap} {CX:CXT} {j k:Nat} {f:Addr} {fd:FuncData} {ps:List Str} {sp:Sp} (F:aY P w K mg base CX j f fd ps sp) (h:j<=k):
  aY P w K mg base CX k f fd ps sp:=⟨F.len,fun A outer s H args us vs Q E hr=>F.run A outer s H args us vs Q E (hr.mono h)⟩
section
variable {X:Cx} {pins:List (Addr × Obj)} {σ:St} {H:Hp} {s s':Shared}
theorem Inv.env0 (I:Inv X pins σ H s):Env0 X.prog X.w X.K X.mg X.base X.A X.stack s H:=
 ⟨I.ok.frames,I.ok.mod,I.bs,Nat.le_trans I.ok.bsz I.sz,I.stack,I.stkFree,I.hok,I.bare⟩
theorem Inv.after {Q:VK} {u:Value} (I:Inv X pins σ H s) (h:CE X.stack X.prog X.w H s Q u s'):EP X pins σ Q u s':=by
 obtain⟨v,H',os,bare,un,hok,r,q⟩:=h
 obtain⟨hh,g,d,t,os'⟩:=s'
 obtain rfl:os'=s.os:=os
 exact⟨v,H',I.call (h':=hh) (g':=g) (d':=d) (t':=t) (ch:=[]) un hok bare (fun b z=>absurd z (by simp)),r,q⟩
end
def nY (sp:Sp) (dvs:List V) (E:XK) (t:TA):TE:=fun σ H Q=>t σ H fun vs H1=>sp (vs++dvs) H1 Q E
def bV (K:PySem.W.Frag) (fd:FuncData) (ps:List Str) (ds:List Value):Prop:=
 ∀(s:Shared) (us:List Value),K.In s.heap->(us++ds).length=ps.length->BindsTo s fd ⟨us,[]⟩ (ps.zip (us++ds))
theorem bV.all {K:PySem.W.Frag} {fd:FuncData} {ps:List Str} (h:∀us:List Value,us.length=ps.length->bindArgs fd ⟨us,[]⟩=pure (ps.zip us)):bV K fd ps []:=fun s us _ hl=>by
 rw [List.append_nil] at hl ⊢
 exact .of_eq (h us hl)
def iD (CX:CXT) (X:Cx) (E:XK):Prop:=∀(pins:List (Addr × Obj)) (σ:St) (H:Hp) (s:Shared) (e:Value) (s':Shared),Inv X pins σ H s->CX X.stack H s E e s'->X.xe e s'
section
variable {X:Cx} {CX:CXT} {k:Nat} {f C:Addr} {fd:FuncData} {ps:List Str} {sp:Sp} {dvs:List V} {ds:List Value} {E:XK} {x m:Str} {p pos apos:Pos} {e o:Expr} {es:List Expr} {ta:TE} {t:TA}
theorem run_fn {pins:List (Addr × Obj)} {σ:St} {H:Hp} {s:Shared} {Q:VK} {us:List Value} {vs:List V} (F:aY X.prog X.w X.K X.mg X.base CX k f fd ps sp) (hr:eS k X.A) (hb:bV X.K fd ps ds) (hd:bY dvs ds) (hx:iD CX X E)
  (I:Inv X pins σ H s) (r:bY vs us) (h:sp (vs++dvs) H Q E):wpAny (model X.prog X.w) X.A (call (.ref f) us) (EP X pins σ Q) X.xe s:=by
 have r2:bY (vs++dvs) (us++ds):=r.append hd
 have hl:(us++ds).length=ps.length:=by rw [<- r2.length];exact F.len _ _ _ _ h
 refine wpAny_call (codeAny_mono (F.run X.A X.stack s H ⟨us,[]⟩ (us++ds) (vs++dvs) Q E hr I.env0 (hb s us I.kIn hl) r2 h) fun r s' hq=>?_)
 cases r with
 | error e=>exact hx pins σ H s e s' I hq
 | ok fl=>
  cases fl with
  | ret u=>exact I.after hq
  | next=>exact False.elim hq
  | brk=>exact False.elim hq
  | cont=>exact False.elim hq
theorem aH (F:aY X.prog X.w X.K X.mg X.base CX k f fd ps sp) (hr:eS k X.A) (hg:Gl X x) (hm:X.mg x=some (.ref f)) (hk:PySem.W.keepIn X.K (.ref f)=true) (hb:bV X.K fd ps ds) (hd:bY dvs ds) (hx:iD CX X E)
  (ha:PA X (e::es) t) (hdb:(x == ("__debug__":Str))=false:=by decide) (he:starEach (e::es) X.env=(false,eval e X.env)::starEach es X.env:=by rfl) (hpl:(backTo pos (starEach es X.env)).any (·.1)=false:=by rfl):
  PE X (.Call (.Name x p) (e::es) [] pos) (nY sp dvs E t):=by
 intro pins s σ H Q I h
 refine wpAny_Call_Name_kw (gT I hg hm ?_ hdb)
 refine PySem.W.callWith_K (h₀:=X.base) I.ok.mod.kin hk (thn (ha pins s σ H _ I h) fun us s1 ⟨vs,H1,I1,r,q⟩=>⟨I1.kIn,?_⟩) he hpl
 exact run_fn F hr hb hd hx I1 r q
end
section
variable {X:Cx} {CX:CXT} {k:Nat} {f C:Addr} {fd:FuncData} {ps ks:List Str} {sp:Sp} {E:XK} {x m:Str} {p pos apos kpos:Pos} {e o:Expr} {es:List Expr} {kws:List Keyword} {te ta:TE} {t tk:TA} {nm:Option Str}
variable {g:List Value->List Value->List Value} {gV:List V->List V->List V}
end
structure bO (N P:List Str) (sc:Scope):Prop where
 kind:sc.kind=.function
 co:sc.isCoroutine=false
 gen:sc.isGenerator=false
 nd:N.Nodup
 pre:N.take P.length=P
 par:∀x ∈ P,sc.names.lookup x=some .local\/sc.names.lookup x=some .cell
 nofree:∀y ∈ sc.names,y.2≠.free
theorem pC {kindOf:Str->Option NameKind} {x:Str}:∀{binds:List (Str × Value)} {m:Str->Option Value},(∀v,(x,v) ∉ binds)->bindL kindOf binds m x=m x
 | [],_,_=>rfl
 | (n,v)::r,m,h=>by
  unfold bindL
  rw [pC fun w hw=>h w (List.mem_cons_of_mem _ hw)]
  split
  ·have:x≠n:=by rintro rfl;exact h v List.mem_cons_self
   simp [this]
  ·rfl
theorem pE {kindOf:Str->Option NameKind} {x:Str}:∀{binds:List (Str × Value)} {m:Str->Option Value},(∀v,(x,v) ∉ binds)->bindC kindOf binds m x=m x
 | [],_,_=>rfl
 | (n,v)::r,m,h=>by
  unfold bindC
  rw [pE fun w hw=>h w (List.mem_cons_of_mem _ hw)]
  split
  ·rfl
  ·have:x≠n:=by rintro rfl;exact h v List.mem_cons_self
   simp [this]
theorem pD {kindOf:Str->Option NameKind} {x:Str} {v:Value}:∀{P:List Str} {vs:List Value} {i:Nat} {m:Str->Option Value},P.Nodup->P[i]?=some x->vs[i]?=some v->kindOf x=some .local ->
  bindL kindOf (P.zip vs) m x=some v
 | [],_,_,_,_,h,_,_=>by simp at h
 | _::_,[],_,_,_,_,h,_=>by simp at h
 | p::P,w::vs,0,m,nd,h1,h2,hk=>by
  simp at h1 h2;subst h1;subst h2
  show bindL kindOf ((p,w)::P.zip vs) m p=_
  unfold bindL
  rw [pC fun v hv=>(List.nodup_cons.mp nd).1 (List.of_mem_zip hv).1,if_pos hk]
  simp
 | p::P,w::vs,i+1,m,nd,h1,h2,hk=>by
  show bindL kindOf ((p,w)::P.zip vs) m x=_
  unfold bindL
  exact pD (i:=i) (List.nodup_cons.mp nd).2 (by simpa using h1) (by simpa using h2) hk
theorem pF {kindOf:Str->Option NameKind} {x:Str} {v:Value}:∀{P:List Str} {vs:List Value} {i:Nat} {m:Str->Option Value},P.Nodup->P[i]?=some x->vs[i]?=some v->kindOf x≠some .local ->
  bindC kindOf (P.zip vs) m x=some v
 | [],_,_,_,_,h,_,_=>by simp at h
 | _::_,[],_,_,_,_,h,_=>by simp at h
 | p::P,w::vs,0,m,nd,h1,h2,hk=>by
  simp at h1 h2;subst h1;subst h2
  show bindC kindOf ((p,w)::P.zip vs) m p=_
  unfold bindC
  rw [pE fun v hv=>(List.nodup_cons.mp nd).1 (List.of_mem_zip hv).1,if_neg hk]
  simp
 | p::P,w::vs,i+1,m,nd,h1,h2,hk=>by
  show bindC kindOf ((p,w)::P.zip vs) m x=_
  unfold bindC
  exact pF (i:=i) (List.nodup_cons.mp nd).2 (by simpa using h1) (by simpa using h2) hk
def dD (N:List Str) (vs:List V):St:=vs.map some++List.replicate (N.length-vs.length) none
def iS (CX:CXT) (P:Program) (w:World) (K:PySem.W.Frag) (mg:Str->Option Value) (base:Heap) (N:List Str) (qual:Str) (scope:Scope) (f:Addr) (cd:Value) (A:Around) (outer:List Env) (s:Shared) (H:Hp) (E:XK):Cx where
 prog:=P
 w:=w
 K:=K
 mg:=mg
 base:=base
 A:=A.deeper (envOfC qual scope s.heap.objs.size f cd)
 N:=N
 s₀:=s
 H₀:=H
 env:=envOfC qual scope s.heap.objs.size f cd
 outer:=outer
 stack:=envOfC qual scope s.heap.objs.size f cd::outer
 ex:=[]
 calm:=true
 fn:=fun _=>true
 pn:=[]
 xe:=fun e s'=>wpAny (model P w) (A.deeper (envOfC qual scope s.heap.objs.size f cd)) (leaving (envOfC qual scope s.heap.objs.size f cd) e) (fun _ s''=>CX outer H s E e s'') (fun e' s''=>CX outer H s E e' s'') s'
theorem tG {sc:Scope} {n:Nat} {x:Str} (h:sc.names.lookup x=some .cell):∃c,(cellsFrom n sc.names []).lookup x=some c:=by
 have q:=PySem.W.cellsFrom_some sc.names n [] (.inl h)
 exact Option.isSome_iff_exists.mp q
theorem oV {CX:CXT} {P:Program} {w:World} {K:PySem.W.Frag} {mg:Str->Option Value} {base:Heap} {N ps:List Str} {qual:Str} {scope:Scope} {f:Addr} {cd:Value} {A:Around} {outer:List Env} {s s1:Shared} {H:Hp} {E:XK} {us:List Value} {vs:List V}
  (S:bO N ps scope) (hd:A.handled=none) (e0:Env0 P w K mg base A outer s H) (hl:vs.length=ps.length) (r:bY vs us)
  (x:InCallC s s.heap.objs.size (bindL (envOfC qual scope s.heap.objs.size f cd).kindOf (ps.zip us) fun _=>none) (cellsFrom (s.heap.objs.size+1) scope.names []) (bindC (envOfC qual scope s.heap.objs.size f cd).kindOf (ps.zip us) fun _=>none) s1):
  Inv (iS CX P w K mg base N qual scope f cd A outer s H E) [] (dD N vs) H s1:=by
 have hpl:ps.length<=N.length:=by have:=congrArg List.length S.pre;rw [List.length_take] at this;omega
 obtain⟨h1,tk,rfl,hk⟩:=x.done
 have noA:∀b:Addr,b ∉ (iS CX P w K mg base N qual scope f cd A outer s H E).ex:=fun b z=>absurd (show b ∈ ([]:List Addr) from z) (by simp)
 refine⟨⟨e0.mod,S.kind,rfl,rfl,Nat.le_refl _,fun y z c h1 h2=>?_,fun y hy=>?_,fun y c _ h=>?_,fun _=>hd,Around.frames_deeper e0.frames,.inr ⟨rfl,rfl⟩,fun b z=>absurd z (noA b),e0.bs,e0.bsz,fun b _ _=>noA b,fun b z=>absurd z (noA b),e0.funs,e0.frf⟩,
  rfl,e0.bare,Un.kept hk,⟨_,x.toInCall.ns,fun i y v h1 h2 h3=>?_⟩,fun y c h=>⟨_,x.cell y c h⟩,e0.hok.fresh (Nat.le_refl _),fun y c h=>?_,fun p hp=>absurd (show p ∈ ([]:List (Addr × Obj)) from hp) (by simp),e0.hok.kept hk,?_⟩
 ·exact name_of_addr x.apart (PySem.mem_of_lookup h1) (PySem.mem_of_lookup h2)
 ·have hy:scope.names.lookup y=some .cell\/scope.names.lookup y=some .free:=hy
  rcases hy with hy|hy
  ·exact tG hy
  ·exact absurd rfl (S.nofree _ (PySem.mem_of_lookup hy))
 ·exact Nat.le_of_lt (x.above y c (PySem.mem_of_lookup h))
 ·have hi:i<vs.length:=by
   unfold dD at h2
   by_cases hi:i<vs.length
   ·exact hi
   ·rw [List.getElem?_append_right (by simpa using hi)] at h2
    rw [List.getElem?_replicate] at h2
    split at h2 <;> cases h2
  have ha:vs[i]?=some v:=by
   unfold dD at h2
   rw [List.getElem?_append_left (by simpa using hi),List.getElem?_map] at h2
   cases e:vs[i]? with
   | none=>rw [e] at h2;cases h2
   | some a=>rw [e] at h2;cases h2;rfl
  obtain⟨u,hu,rv⟩:=r.get ha
  have hp:ps[i]?=some y:=by
   rw [<- S.pre,List.getElem?_take_of_lt (by omega)];exact h1
  have ndP:ps.Nodup:=by rw [<- S.pre];exact S.nd.sublist (List.take_sublist _ _)
  refine⟨u,rv,?_⟩
  rcases S.par y (List.mem_of_getElem? hp) with k|k
  ·exact .inl ⟨k,pD ndP hp hu k⟩
  ·obtain⟨c,e⟩:=tG (n:=s.heap.objs.size+1) k
   refine .inr ⟨.inl k,c,e,?_⟩
   have q:=x.cell y c e
   rw [pF ndP hp hu (by show scope.names.lookup y≠_;rw [k];decide)] at q
   exact q
 ·exact e0.hok.fresh (Nat.le_of_lt (x.above y c (PySem.mem_of_lookup h)))
 ·unfold dD
  show _=N.length
  rw [List.length_append,List.length_map,List.length_replicate]
  omega
theorem fn_of {CX:CXT} {P:Program} {w:World} {K:PySem.W.Frag} {mg:Str->Option Value} {base:Heap} {k:Nat} {f:Addr} {name qual:Str} {params:Arguments} {body:List Stmt} {scope:Scope} {dV kV doc pm cdv ct oc:Value} {an od:Option Addr}
  {osl:Array (Option Value)} {N ps:List Str} {sp:Sp} (lk:K.lookup f=some ⟨oc,od,.func (PySem.W.fnOf name qual params body scope dV kV doc pm an cdv ct),osl⟩) (hcd:PySem.W.codeIn K cdv qual=true) (S:bO N ps scope)
  (len:∀vs H Q E,sp vs H Q E->vs.length=ps.length)
  (hbody:∀(A:Around) (outer:List Env) (s:Shared) (H:Hp) (vs:List V) (Q:VK) (E:XK),eS k (A.deeper (envOfC qual scope s.heap.objs.size f cdv))->sp vs H Q E ->
   ∃t,PSs (iS CX P w K mg base N qual scope f cdv A outer s H E) body t/\t { nx:=fun _ H'=>Q .non H',rt:=Q } (dD N vs) H):
  aY P w K mg base CX (k+1) f (PySem.W.fnOf name qual params body scope dV kV doc pm an cdv ct) ps sp:=by
 refine⟨len,fun A outer s H args us vs Q E hr e0 hb r hsp=>?_⟩
 have hl:=len _ _ _ _ hsp
 have KX:K.In s.heap:=e0.mod.kin.keeps fun b o e=>(e0.bs b o e).1
 have lim:s.heap.NoLimit:=e0.mod.nolimit.keeps fun b o e=>(e0.bs b o e).1
 have hkind:∀y ∈ ps.zip us,scope.names.lookup y.1=some .local\/(scope.names.lookup y.1=some .cell/\((cellsFrom (s.heap.objs.size+1) scope.names []).lookup y.1).isSome=true):=fun⟨n,v⟩ hy=>by
  rcases S.par n (List.of_mem_zip hy).1 with q|q
  ·exact .inl q
  ·exact .inr ⟨q,PySem.W.cellsFrom_some _ _ _ (.inl q)⟩
 refine codeAny_call_function hr.depth (KX _ _ lk) rfl S.co S.gen rfl (PySem.W.codeRec_of KX hcd) (hb _ _ _ _ ?_)
 refine wpAny_newFunctionEnv_cells S.kind hkind fun env he s1 x=>?_
 subst he
 refine⟨lim.keeps x.toInCall.keep,codeAny_func ?_⟩
 obtain⟨t,ht,hq⟩:=hbody A outer s H vs Q E (hr.deeper _) hsp
 have I:Inv (iS CX P w K mg base N qual scope f cdv A outer s H E) [] (dD N vs) H s1:=oV S hr.hd e0 hl r x
 refine wpAny_mono (ht s1 (dD N vs) H _ I hq) (fun fl s' hs=>?_) fun e s' hs=>hs
 have fin:∀{σ':St} {H':Hp} {v:V} {u:Value},Inv (iS CX P w K mg base N qual scope f cdv A outer s H E) [] σ' H' s'->cJ v u->Q v H'->CE outer P w H s Q u s':=
  fun {σ' H' v u} J rv q=>⟨v,H',J.os,J.bare,J.base,J.hok,rv,q⟩
 cases fl with
 | ret u=>
  obtain⟨v,σ',H',J,rv,q⟩:=hs
  exact fin J rv q
 | next=>
  obtain⟨σ',H',J,q⟩:=hs
  exact fin (v:=V.non) (u:=Value.none) J rfl q
 | brk=>
  obtain⟨_,_,_,q⟩:=hs
  exact False.elim q
 | cont=>
  obtain⟨_,_,_,q⟩:=hs
  exact False.elim q
section
variable {X:Cx} {x:Str} {p pos:Pos} {e:Expr} {es:List Expr} {t:TA} {id T:String} {r:List V->Hp->VK->Prop}
def tCB (r:List V->Hp->VK->Prop) (t:TA):TE:=fun σ H Q=>t σ H fun vs H1=>r vs H1 Q
theorem aO (hc:eF X (.builtin id) r) (hg:Gl X x) (hm:X.mg x=none) (hv:bootBuiltins x=some (.builtin id)) (ha:PA X (e::es) t) (hn:x≠"__name__":=by decide) (hdb:(x == ("__debug__":Str))=false:=by decide)
  (he:starEach (e::es) X.env=(false,eval e X.env)::starEach es X.env:=by rfl) (hpl:(backTo pos (starEach es X.env)).any (·.1)=false:=by rfl):PE X (.Call (.Name x p) (e::es) [] pos) (tCB r t):=by
 intro pins s σ H Q I h
 refine wpAny_Call_Name_kw (iC I hg hm hv ?_ hn hdb)
 exact PyProof.Rows.callWith_builtin1 (thn (ha pins s σ H _ I h) fun us s1 ⟨vs,H1,I1,r1,q1⟩=>hc pins s1 σ H1 vs us Q I1 r1 q1) he hpl
theorem cF (hc:eF X (.type T) r) (hg:Gl X x) (hm:X.mg x=none) (hv:bootBuiltins x=some (.type T)) (ha:PA X (e::es) t) (hn:x≠"__name__":=by decide) (hdb:(x == ("__debug__":Str))=false:=by decide)
  (he:starEach (e::es) X.env=(false,eval e X.env)::starEach es X.env:=by rfl) (hpl:(backTo pos (starEach es X.env)).any (·.1)=false:=by rfl):PE X (.Call (.Name x p) (e::es) [] pos) (tCB r t):=by
 intro pins s σ H Q I h
 refine wpAny_Call_Name_kw (iC I hg hm hv ?_ hn hdb)
 exact PyProof.Rows.callWith_type1 (thn (ha pins s σ H _ I h) fun us s1 ⟨vs,H1,I1,r1,q1⟩=>hc pins s1 σ H1 vs us Q I1 r1 q1) he hpl
end
end L2
namespace HT
open PySem PyProof.Rows
section
open PySem.SeqAt
open PySem.AutoSeq1 (wpAny_loadPart')
open PySem.MeetsSeq PySem.MeetsSeq2 PySem.MeetsSeq3
end
section
variable {prog:Program} {w:World} {A:Around} {E:Value->Shared->Prop} {s:Shared}
theorem cat_tup {t b:Addr} {vs ws:List Value} {Q:Value->Shared->Prop} (ht:IsTup s.heap t vs.toArray) (hb:IsTup s.heap b ws.toArray) (hv:vs≠[])
  (h1:ws=[]->Q (.ref t) s) (h2:ws≠[]->Q (.ref s.heap.objs.size) { s with heap:=s.heap.push { cls:=.type "tuple",data:=.seq (vs++ws).toArray } })
  (hsz:vs.length+ws.length<=sizeLine):wpAny (model prog w) A (binaryOp .Add (.ref t) (.ref b)) Q E s:=by
 obtain⟨⟨cls,dd,data,sl⟩,ho,hc,n,hd⟩:=id ht
 obtain⟨⟨cls2,dd2,data2,sl2⟩,ho2,hc2,n2,hd2⟩:=id hb
 simp only at hc hd hc2 hd2
 subst hc hd hc2 hd2
 have e:vs.toArray++ws.toArray=(vs++ws).toArray:=by simp
 by_cases hw:ws=[]
 ·exact concat_meets ⟨_,ho,rfl⟩ ⟨_,ho2,rfl⟩ noFill_tuple_add seq_tuple_add PySem.F.slot_tuple_add PySem.F.entry_tuple_add (PySem.F.args_tuple_add_2 _ _)
   (tuple_addW1 t b vs.toArray ws.toArray n n2 dd dd2 sl sl2 (by simpa using hv) (by simp [hw])) ⟨ho,ho2,h1 hw⟩
 ·refine concat_meets ⟨_,ho,rfl⟩ ⟨_,ho2,rfl⟩ noFill_tuple_add seq_tuple_add PySem.F.slot_tuple_add PySem.F.entry_tuple_add (PySem.F.args_tuple_add_2 _ _)
   (tuple_addW2 t b vs.toArray ws.toArray n n2 dd dd2 sl sl2 (by simpa using hv) (by simpa using hw) (by rw [List.size_toArray,List.size_toArray];exact hsz)) ⟨ho,ho2,?_⟩
  rw [e]
  exact h2 hw
def sIx (n d:Nat):Option Int->Nat
 | none=>d
 | some v=>if v<0 then(v+(n:Int)).toNat else min v.toNat n
theorem sIx_none (n d:Nat):sIx n d none=d:=rfl
theorem sIx_nat (n d k:Nat):sIx n d (some (k:Int))=min k n:=by
 show (if (k:Int)<0 then((k:Int)+(n:Int)).toNat else min (k:Int).toNat n)=min k n
 rw [if_neg (by omega),Int.toNat_natCast]
theorem sIx_le (n d:Nat) (hd:d<=n) (o:Option Int):sIx n d o<=n:=by
 cases o with
 | none=>exact hd
 | some v=>
  show (if v<0 then(v+(n:Int)).toNat else min v.toNat n)<=n
  by_cases hv:v<0
  ·rw [if_pos hv];omega
  ·rw [if_neg hv];exact Nat.min_le_right _ _
theorem wW (v:Int) (n d:Nat):(if v<0 then max (v+(n:Int)) 0 else min v (n:Int))=((sIx n d (some v):Nat):Int):=by
 show (if v<0 then max (v+(n:Int)) 0 else min v (n:Int))=(((if v<0 then(v+(n:Int)).toNat else min v.toNat n):Nat):Int)
 by_cases hv:v<0
 ·simp only [if_pos hv];omega
 ·simp only [if_neg hv];omega
theorem vF (lo hi:Option Int) (n:Nat):Builtin.Slice.sliceAdjust lo hi 1 (n:Int)=(((sIx n 0 lo:Nat):Int),((sIx n n hi:Nat):Int)):=by
 have h1:¬ ((1:Int)<0):=by omega
 unfold Builtin.Slice.sliceAdjust
 simp only [h1,if_false]
 refine Prod.ext ?_ ?_
 ·cases lo with
  | none=>rfl
  | some v=>exact wW v n 0
 ·cases hi with
  | none=>rfl
  | some v=>exact wW v n n
theorem uU (i j:Nat):Builtin.Slice.slicePlaces (i:Int) (j:Int) 1=j-i:=by
 unfold Builtin.Slice.slicePlaces
 have h1:(1:Int) > 0:=by omega
 simp only [h1,if_true,Int.ediv_one]
 split <;> omega
theorem lX {v:Value} {o:Option Int} {Q:Option Int->Shared->Prop} (p:IsPart v o) (h:Q o s):wpAny (model prog w) A (Builtin.Slice.slicePartIndex v) Q E s:=by
 cases p with
 | none=>exact slicePart_none h
 | int i t=>exact slicePart_int h
theorem gH {sl:Addr} {vl vu:Value} {lo hi:Option Int} {n:Nat} {Q:Int × Int × Nat->Shared->Prop} (hs:s.heap.IsSliceOf sl vl vu .none) (pl:IsPart vl lo) (pu:IsPart vu hi)
  (h:Q (((sIx n 0 lo:Nat):Int),1,sIx n n hi-sIx n 0 lo) s):wpAny (model prog w) A (Builtin.Slice.sliceApplied (.ref sl) (pure (n:Int))) Q E s:=by
 obtain⟨os,hos,hcs,hds⟩:=id hs
 unfold Builtin.Slice.sliceApplied Builtin.Slice.sliceFields
 refine wpAny_bind (wpAny_bind (wpAny_field hos hds (x:=vl) rfl (wpAny_bind (wpAny_field hos hds (x:=vu) rfl (wpAny_bind (wpAny_field hos hds (x:=.none) rfl (wpAny_pure ?_)))))))
 refine wpAny_bind (slicePart_none ?_)
 show wpAny _ _ (if ((1:Int) == 0)=true then _ else _) _ _ s
 rw [if_neg (by decide)]
 refine wpAny_bind (lX pl (wpAny_bind (lX pu (wpAny_bind (wpAny_pure ?_)))))
 show wpAny _ _ (match Builtin.Slice.sliceAdjust lo hi 1 (n:Int) with|(lo,hi)=>pure (lo,(1:Int),Builtin.Slice.slicePlaces lo hi 1)) _ _ s
 rw [vF lo hi n]
 show wpAny _ _ (pure (((sIx n 0 lo:Nat):Int),(1:Int),Builtin.Slice.slicePlaces ((sIx n 0 lo:Nat):Int) ((sIx n n hi:Nat):Int) 1)) _ _ s
 rw [uU]
 exact wpAny_pure h
theorem yU (xs:Array Value) (i k:Nat):((List.range k).filterMap fun(m:Nat)=>xs[((i:Int)+(m:Int) * 1).toNat]?).toArray=((xs.toList.drop i).take k).toArray:=by
 have e:(fun(m:Nat)=>xs[((i:Int)+(m:Int) * 1).toNat]?)=fun m=>xs[i+m]?:=by
  funext m
  have:((i:Int)+(m:Int) * 1).toNat=i+m:=by omega
  rw [this]
 rw [e]
 have:=pick_run xs i k
 rw [List.filterMap_map] at this
 have e2:((fun x=>xs[x]?) ∘ fun x=>i+x)=fun m=>xs[i+m]?:=rfl
 rw [e2] at this
 rw [this]
theorem getItem_tuple_cut {t sl:Addr} {items:Array Value} {vl vu:Value} {lo hi:Option Int} {Q:Value->Shared->Prop} (ht:IsTup s.heap t items) (hs:s.heap.IsSliceOf sl vl vu .none) (pl:IsPart vl lo) (pu:IsPart vu hi)
  (hw:¬ (sIx items.size 0 lo=0/\sIx items.size items.size hi=items.size))
  (h:Q (.ref s.heap.objs.size) { s with heap:=s.heap.push { cls:=.type "tuple",data:=.seq ((items.toList.drop (sIx items.size 0 lo)).take (sIx items.size items.size hi-sIx items.size 0 lo)).toArray } })
  (hsz:items.size<=sizeLine):wpAny (model prog w) A (getItem (.ref t) (.ref sl)) Q E s:=by
 have htake:sizeOk (.seq ((items.toList.drop (sIx items.size 0 lo)).take (sIx items.size items.size hi-sIx items.size 0 lo)).toArray):=by
  show ((items.toList.drop (sIx items.size 0 lo)).take (sIx items.size items.size hi-sIx items.size 0 lo)).toArray.size<=sizeLine
  rw [List.size_toArray,List.length_take,List.length_drop,Array.length_toList]
  omega
 have hj:sIx items.size items.size hi<=items.size:=sIx_le _ _ (Nat.le_refl _) hi
 obtain⟨os,hos,hcs,hds⟩:=id hs
 have hTs:s.TypeIs (.ref sl) "slice":=⟨os,hos,hcs⟩
 unfold getItem
 try with_reducible refine wpAny_holding ?_
 first|refine wpAny_bind (wpAny_pure ?_)|skip
 refine wpAny_bind (wpAny_sequenceKey ht.typeIs (by decide) ?_)
 refine wpAny_bind (wpAny_callSpecial?_slot (name:=Str.ofString "__getitem__") ht.typeIs PyProof.Rows.slot_tuple_getitem
  (wpAny_call_entry PyProof.Rows.slot_tuple_getitem ht.typeIs entry_tuple_getitem ?_ (args_tuple_getitem _ _)))
 show wpAny _ _ (Builtin.Tuple.tupleItemsOf (.ref t) >>= _) _ _ s
 refine wpAny_bind (tupleItemsOf_ ht ?_)
 refine wpAny_bind (wpAny_typeOf hTs ?_)
 rw [if_pos (by decide)]
 refine wpAny_bind (gH hs pl pu ?_)
 have hno:¬ ((((sIx items.size 0 lo:Nat):Int) == 0 && (1:Int) == 1 && (sIx items.size items.size hi-sIx items.size 0 lo) == items.size)=true):=by
  intro q
  rw [Bool.and_eq_true,Bool.and_eq_true] at q
  have q1:((sIx items.size 0 lo:Nat):Int)=0:=eq_of_beq q.1.1
  have q2:sIx items.size items.size hi-sIx items.size 0 lo=items.size:=eq_of_beq q.2
  exact hw ⟨by omega,by omega⟩
 show wpAny _ _ (if (((sIx items.size 0 lo:Nat):Int) == 0 && (1:Int) == 1 && (sIx items.size items.size hi-sIx items.size 0 lo) == items.size)=true then _ else _) _ _ s
 rw [if_neg hno,yU]
 first
  | exact wpAny_bind (m:=Builtin.Tuple.tupleExact _) (wpAny_newObj_type (wpAny_pure ⟨_,rfl,wpAny_pure h⟩) htake)
  | exact wpAny_bind (m:=Builtin.Tuple.tupleExact _) (wpAny_newObj_type (wpAny_bind (wpAny_pure (wpAny_pure ⟨_,rfl,wpAny_pure h⟩))) htake)
  | exact wpAny_bind (wpAny_bind (m:=Builtin.Tuple.tupleExact _) (wpAny_newObj_type (wpAny_pure (wpAny_pure ⟨_,rfl,wpAny_pure h⟩)) htake))
  | exact wpAny_bind (wpAny_bind (m:=Builtin.Tuple.tupleExact _) (wpAny_newObj_type (wpAny_pure ⟨_,rfl,wpAny_pure h⟩) htake))
end
end HT
namespace L2
open PySem PySem.Spec PyProof.Rows
abbrev TO:=St->Hp->(Option Int->Hp->Prop)->Prop
def PO (X:Cx) (e:Option Expr) (t:TO):Prop:=
 ∀(pins:List (Addr × Obj)) (s:Shared) (σ:St) (H:Hp) (Q:Option Int->Hp->Prop),Inv X pins σ H s->t σ H Q ->
  wpAny (model X.prog X.w) X.A (evalPart e X.env) (fun u s'=>∃o H',Inv X pins σ H' s'/\IsPart u o/\Q o H') X.xe s
def vL:TO:=fun _ H Q=>Q none H
def vK (t:TE):TO:=fun σ H Q=>t σ H fun x H1=>∃i,x=.int i/\Q (some i) H1
section
variable {X:Cx} {e:Expr} {te:TE} {lo hi:Option Expr} {tl th:TO} {pos p2:Pos}
theorem bI:PO X none vL:=by
 intro pins s σ H Q I h
 rw [evalPart_none]
 exact wpAny_pure ⟨none,H,I,.none,h⟩
theorem aU (h:PE X e te):PO X (some e) (vK te):=by
 intro pins s σ H Q I hw
 rw [evalPart_some]
 refine thn (h s σ H _ I hw) fun u s1 ⟨x,H1,I1,r1,q1⟩=>?_
 obtain⟨i,rfl,q⟩:=q1
 obtain⟨t,rfl⟩:=r1
 exact⟨some i,H1,I1,.int i t,q⟩
def SlR (X:Cx) (r:V->Option Int->Option Int->Hp->VK->Prop):Prop:=
 ∀(pins:List (Addr × Obj)) (s:Shared) (σ:St) (H:Hp) (x:V) (v vl vu:Value) (lo hi:Option Int) (sl:Addr) (Q:VK),Inv X pins σ H s->cJ x v->s.heap.IsSliceOf sl vl vu .none->IsPart vl lo->IsPart vu hi->r x lo hi H Q ->
  ∃T id,typeLookup (.type T) "__getitem__"=pure (some (.builtin id))/\s.TypeIs v T/\wpAny (model X.prog X.w) X.A (getItem v (.ref sl)) (EP X pins σ Q) X.xe s
def tSl (r:V->Option Int->Option Int->Hp->VK->Prop) (te:TE) (tl th:TO):TE:=fun σ H Q=>te σ H fun x H1=>tl σ H1 fun l H2=>th σ H2 fun u H3=>r x l u H3 Q
theorem aQ {r:V->Option Int->Option Int->Hp->VK->Prop} (hr:SlR X r) (he:PE X e te) (hl:PO X lo tl) (hu:PO X hi th):PE X (.Subscript e (.Slice lo hi none p2) pos) (tSl r te tl th):=by
 intro pins s σ H Q I h
 refine Subscript_ (thn (he s σ H _ I h) fun v s1 ⟨x,H1,I1,r1,q1⟩=>?_)
 refine wpAny_Slice (thn (hl pins s1 σ H1 _ I1 q1) fun vl s2 ⟨l,H2,I2,pl,q2⟩=>thn (hu pins s2 σ H2 _ I2 q2) fun vu s3 ⟨u,H3,I3,pu,q3⟩=>?_)
 rw [evalPart_none]
 refine wpAny_pure ?_
 have I4:Inv X pins σ H3 { s3 with heap:=s3.heap.push { cls:=.type "slice",data:=.fields #[vl,vu,.none] } }:=I3.kept (t':=s3.toks) fun b ob q=>Heap.get?_push_of_some _ q
 obtain⟨T,id,hT,ht,hg⟩:=hr pins { s3 with heap:=s3.heap.push { cls:=.type "slice",data:=.fields #[vl,vu,.none] } } σ H3 x v vl vu l u s3.heap.objs.size Q I4 r1 (Heap.IsSliceOf.new ..) pl pu q3
 show wpAny (model X.prog X.w) X.A (subscriptTail e (.Slice lo hi none p2) v (.ref s3.heap.objs.size)) (EP X pins σ Q) X.xe { s3 with heap:=s3.heap.push { cls:=.type "slice",data:=.fields #[vl,vu,.none] } }
 exact tail_any (ops:=[.ref s3.heap.objs.size,v]) ht hT hg (by with_unfolding_all rfl)
def cY (xs:List V) (lo hi:Option Int):List V:=(xs.drop (HT.sIx xs.length 0 lo)).take (HT.sIx xs.length xs.length hi-HT.sIx xs.length 0 lo)
theorem kQ (xs:List V) (lo hi:Option Int):(cY xs lo hi).length<=xs.length:=by
 unfold cY
 rw [List.length_take,List.length_drop]
 omega
def rSlT (K:PySem.W.Frag):V->Option Int->Option Int->Hp->VK->Prop:=fun x lo hi H Q=>∃a xs,x=.ref a/\SqT K H a xs /\
 ¬ (HT.sIx xs.length 0 lo=0/\HT.sIx xs.length xs.length hi=xs.length)/\∀p,H p=none->Q (.ref p) (upd H p (.tup (cY xs lo hi)))
theorem sl_tup:SlR X (rSlT X.K):=by
 intro pins s σ H x v vl vu lo hi sl Q I rx hs pl pu h
 obtain⟨a,xs,rfl,hx,hw,q⟩:=h
 cases rx
 obtain⟨its,r,ht,hz⟩:=I.tuple hx
 have hlen:its.toArray.size=xs.length:=by rw [List.size_toArray];exact r.length.symm
 refine⟨"tuple",_,PyProof.Rows.slot_tuple_getitem.lookup,ht.typeIs,?_⟩
 refine HT.getItem_tuple_cut ht hs pl pu (by rw [hlen];exact hw) ?_ (by rw [hlen];exact hz)
 rw [hlen]
 refine⟨.ref s.heap.objs.size,_,I.laid (t':=s.toks) (o:=.tup (cY xs lo hi)) (fun b ob q=>Heap.get?_push_of_some _ q) (Nat.le_refl _) ?_,rfl,q _ (I.hok.fresh (Nat.le_refl _))⟩
 exact⟨Nat.le_trans (kQ xs lo hi) hz,_,(r.drop (HT.sIx xs.length 0 lo)).take (HT.sIx xs.length xs.length hi-HT.sIx xs.length 0 lo),IsTup.new _ _⟩
def rCatT (K:PySem.W.Frag):R2:=fun x y H Q=>∃a b xs ys,x=.ref a/\y=.ref b/\SqT K H a xs/\SqT K H b ys/\xs≠[]/\xs.length+ys.length<=sizeLine /\
 (ys=[]->Q (.ref a) H)/\(ys≠[]->∀p,H p=none->Q (.ref p) (upd H p (.tup (xs++ys))))
theorem bY.nil_iff {xs:List V} {us:List Value} (r:bY xs us):us=[]↔xs=[]:=by
 cases r with
 | nil=>simp
 | cons _ _=>simp
theorem op_catT:OpR X (binaryOp .Add) (rCatT X.K):=by
 intro pins s σ H x y v u Q I rx ry h
 obtain⟨a,b,xs,ys,rfl,rfl,ha,hb,hx,hz,q1,q2⟩:=h
 cases rx
 cases ry
 obtain⟨its,r1,p1,_⟩:=I.tuple ha
 obtain⟨its2,r2,p2,_⟩:=I.tuple hb
 refine HT.cat_tup p1 p2 (fun z=>hx (r1.nil_iff.mp z)) (fun z=>⟨.ref a,H,I,rfl,q1 (r2.nil_iff.mp z)⟩) (fun z=>?_) (by rw [<- r1.length,<- r2.length];exact hz)
 refine⟨.ref s.heap.objs.size,_,I.laid (t':=s.toks) (o:=.tup (xs++ys)) (fun b ob q=>Heap.get?_push_of_some _ q) (Nat.le_refl _) ?_,rfl,q2 (fun w=>z (r2.nil_iff.mpr w)) _ (I.hok.fresh (Nat.le_refl _))⟩
 exact⟨by rw [List.length_append];exact hz,_,r1.append r2,IsTup.new _ _⟩
end
def ixN (n:Nat) (i:Int):Option Nat:=if 0<=i then(if i<n then some i.toNat else none) else if -(n:Int)<=i then some (i+n).toNat else none
def atI {α:Type} (xs:List α) (i:Int):Option α:=(ixN xs.length i).bind fun j=>xs[j]?
theorem wJ {n:Nat} {i:Int} {j:Nat} (h:ixN n i=some j):seqIndex? i n=some j/\j<n/\-(n:Int)<=i/\i<n:=by
 unfold ixN at h
 by_cases h0:0<=i
 ·rw [if_pos h0] at h
  by_cases h1:i<n
  ·rw [if_pos h1] at h
   have e:i.toNat=j:=Option.some.inj h
   exact⟨by rw [seqIndex_of h0 h1,e],by omega,by omega,h1⟩
  ·rw [if_neg h1] at h;cases h
 ·rw [if_neg h0] at h
  by_cases h1:-(n:Int)<=i
  ·rw [if_pos h1] at h
   have e:(i+n).toNat=j:=Option.some.inj h
   exact⟨by rw [seqIndex_neg (by omega) h1,e],by omega,h1,by omega⟩
  ·rw [if_neg h1] at h;cases h
theorem qY {α:Type} {xs:List α} {i:Int} {v:α} (h:atI xs i=some v):∃j,seqIndex? i xs.length=some j/\xs[j]?=some v/\j<xs.length/\-(xs.length:Int)<=i/\i<xs.length:=by
 unfold atI at h
 cases e:ixN xs.length i with
 | none=>rw [e] at h;cases h
 | some j=>
  rw [e] at h
  obtain⟨h1,h2,h3,h4⟩:=wJ e
  exact⟨j,h1,h,h2,h3,h4⟩
theorem aJ {α:Type} {xs:List α} {j:Nat} {v:α} (h:xs[j]?=some v):atI xs (j:Int)=some v:=by
 have hj:j<xs.length:=(List.getElem?_eq_some_iff.mp h).1
 have e:ixN xs.length (j:Int)=some j:=by
  unfold ixN
  rw [if_pos (by omega),if_pos (by omega)];simp
 unfold atI;rw [e];exact h
def PlainIx (b:Expr):Prop:=∀o i,subscripted b false o i=operate [o,i] (getItem o i)
def IxR (X:Cx) (r:R2):Prop:=
 ∀(value slice:Expr) (pins:List (Addr × Obj)) (s:Shared) (σ:St) (H:Hp) (x y:V) (v u:Value) (Q:VK),Inv X pins σ H s->cJ x v->cJ y u->r x y H Q ->
  subscripted slice false v u=operate [v,u] (getItem v u)->wpAny (model X.prog X.w) X.A (subscriptTail value slice v u) (EP X pins σ Q) X.xe s
def MtR (X:Cx) (id:String) (r:V->List V->Hp->VK->Prop):Prop:=
 ∀(pins:List (Addr × Obj)) (s:Shared) (σ:St) (H:Hp) (x:V) (xs:List V) (v:Value) (us:List Value) (Q:VK),Inv X pins σ H s->cJ x v->bY xs us->r x xs H Q ->
  wpAny (model X.prog X.w) X.A (call (.builtin id) (v::us)) (EP X pins σ Q) X.xe s
section
variable {X:Cx} {a b:Expr} {ta tb:TE} {pos:Pos}
theorem aZ {r:R2} (hr:IxR X r) (ha:PE X a ta) (hb:PE X b tb) (hs:PlainIx b):PE X (.Subscript a b pos) (tOp r ta tb):=by
 intro pins s σ H Q I h
 exact Subscript_ (binT ha hb I h fun v u s2 x y H2 I2 rx ry q=>hr a b pins s2 σ H2 x y v u Q I2 rx ry q (hs _ _))
def rIxL (K:PySem.W.Frag):R2:=fun x y H Q=>∃p xs i v,x=.ref p/\y=.int i/\SqL K H p xs/\atI xs i=some v/\Q v H
def rIxT (K:PySem.W.Frag):R2:=fun x y H Q=>∃p xs i v,x=.ref p/\y=.int i/\SqT K H p xs/\atI xs i=some v/\Q v H
def rIxS:R2:=fun x y H Q=>∃z i c,x=.str z/\y=.int i/\z.length<=sizeLine/\atI z.cps.toList i=some c/\Q (.str ⟨#[c]⟩) H
theorem aR:IxR X (rIxL X.K):=by
 intro value slice pins s σ H x y v u Q I rx ry h hs
 obtain⟨p,xs,i,z,rfl,rfl,hq,he,q⟩:=h
 cases rx
 obtain⟨t,rfl⟩:=ry
 obtain⟨its,r,pl,hz⟩:=I.list hq
 obtain⟨j,h1,h2,h3,h4,h5⟩:=qY he
 obtain⟨w,ew,rw'⟩:=r.get h2
 have hl:=r.length
 have hn:=jD
 have fin:EP X pins σ Q w s:=⟨z,H,I,rw',q⟩
 by_cases h0:0<=i
 ·have hj:i.toNat=j:=by
   rw [seqIndex_of h0 h5] at h1
   exact Option.some.inj h1
  exact item_listR pl.isList h0 (by omega) (by rw [hj];simpa using ew) fin hs
 ·have hj:(i+(its.toArray.size:Int)).toNat=j:=by
   rw [seqIndex_neg (by omega) h4] at h1
   rw [List.size_toArray,<- hl]
   exact Option.some.inj h1
  exact subscriptTail_builtinR (x:=w) pl.isList.typeIs slot_list_getitem.lookup
   (wpAny_getItem_list_neg (Q:=fun r s'=>r=w/\EP X pins σ Q r s') pl.isList (by omega) (by rw [List.size_toArray] <;> omega) (by omega) (by rw [hj];simpa using ew) ⟨rfl,fin⟩) hs
theorem cK:IxR X (rIxT X.K):=by
 intro value slice pins s σ H x y v u Q I rx ry h hs
 obtain⟨p,xs,i,z,rfl,rfl,hq,he,q⟩:=h
 cases rx
 obtain⟨t,rfl⟩:=ry
 obtain⟨its,r,pl,hz⟩:=I.tuple hq
 obtain⟨j,h1,h2,h3,h4,h5⟩:=qY he
 obtain⟨w,ew,rw'⟩:=r.get h2
 have hl:=r.length
 have hn:=jD
 have fin:EP X pins σ Q w s:=⟨z,H,I,rw',q⟩
 exact subscriptTail_builtinR (x:=w) pl.typeIs slot_tuple_getitem.lookup
  (getItem_tuple (j:=j) (Q:=fun r s'=>r=w/\EP X pins σ Q r s') pl (by omega) (by omega) (by rw [List.size_toArray,<- hl];exact h1) (by simpa using ew) ⟨rfl,fin⟩) hs
theorem AaF:IxR X rIxS:=by
 intro value slice pins s σ H x y v u Q I rx ry h hs
 obtain⟨z,i,c,rfl,rfl,hz,he,q⟩:=h
 obtain⟨t,rfl⟩:=rx
 obtain⟨t',rfl⟩:=ry
 obtain⟨j,h1,h2,h3,h4,h5⟩:=qY he
 have hl:z.cps.toList.length=z.length:=by simp [Str.length]
 rw [hl] at h1 h4 h5
 have hn:=jD
 exact tail_any (typeIs_str s z t) slot_str_getitem.lookup (getItem_str (c:=c) (by
  have e1:decide (i < -(2 ^ 63:Int))=false:=decide_eq_false (by omega)
  have e2:decide (i ≥ 2 ^ 63)=false:=decide_eq_false (by omega)
  rw [e1,e2,Bool.or_false]) (by rw [h1];simpa using h2) ⟨.str ⟨#[c]⟩,H,I.tok _,⟨_,rfl⟩,q⟩) hs
theorem uZ (its:List Value) (n j:Nat) (u:Value):Obj.mapSeq (·.setIfInBounds j u) { cls:=.type "list",data:=.seq its.toArray n }={ cls:=.type "list",data:=.seq (its.set j u).toArray n }:=by
 simp [Obj.mapSeq]
theorem Inv.lst {pins:List (Addr × Obj)} {σ:St} {H:Hp} {s:Shared} {p:Addr} {xs:List V} (I:Inv X pins σ H s) (h:H p=some (.lst xs)):
  ∃(its:List Value) (n:Nat),bY xs its/\s.heap.get? p=some { cls:=.type "list",data:=.seq its.toArray n }/\xs.length<=sizeLine:=by
 obtain⟨z,its,n,r,e⟩:=I.hok p _ h
 exact⟨its,n,r,e,z⟩
theorem Inv.lstUpd {pins:List (Addr × Obj)} {σ:St} {H:Hp} {s:Shared} {p:Addr} {xs ys:List V} {its its':List Value} {n n':Nat} {f:Obj->Obj} (I:Inv X pins σ H s) (h:H p=some (.lst xs))
  (ho:s.heap.get? p=some { cls:=.type "list",data:=.seq its.toArray n }) (hf:f { cls:=.type "list",data:=.seq its.toArray n }={ cls:=.type "list",data:=.seq its'.toArray n' }) (r:bY ys its') (hz:ys.length<=sizeLine) (t:Nat):
  Inv X pins σ (upd H p (.lst ys)) { s with heap:=s.heap.update p f,toks:=t }:=by
 have e:(s.heap.update p f).get? p=some { cls:=.type "list",data:=.seq its'.toArray n' }:=by
  rw [Heap.get?_update_self f ho (by rw [hf] <;> rfl),hf]
 refine I.write (x:=p) (e:=p) (by rw [h];trivial) (.inl rfl) (fun b u hb q=>(Heap.get?_update_other _ _ (Ne.symm hb)).trans q) ⟨_,e⟩ ?_
 exact⟨hz,its',n',r,e⟩
def rSetL:V->V->V->Hp->(Hp->Prop)->Prop:=fun o i v H Q=>∃p xs k j,o=.ref p/\i=.int k/\H p=some (.lst xs)/\ixN xs.length k=some j/\Q (upd H p (.lst (xs.set j v)))
theorem rN:PSet X rSetL:=by
 intro pins s σ H o i v ov iv u Q I ro ri rv h
 obtain⟨p,xs,k,j,rfl,rfl,hp,hj,q⟩:=h
 cases ro
 obtain⟨t,rfl⟩:=ri
 obtain⟨its,n,r,ho,hz⟩:=I.lst hp
 obtain⟨h1,h2,h3,h4⟩:=wJ hj
 have hl:=r.length
 have hn:=jD
 have I':Inv X pins σ (upd H p (.lst (xs.set j v))) { s with heap:=s.heap.update p (Obj.mapSeq (·.setIfInBounds j u)) }:=
  I.lstUpd hp ho (uZ its n j u) (r.set rv j) (by rw [List.length_set];exact hz) s.toks
 by_cases h0:0<=k
 ·have hk:k.toNat=j:=by
   rw [seqIndex_of h0 h4] at h1
   exact Option.some.inj h1
  exact PySem.W.ki_setAt ho h0 (by omega) (by rw [List.size_toArray,<- hl];exact h4) (by rw [hk];exact⟨_,I',q⟩)
 ·have hk:(k+(its.toArray.size:Int)).toNat=j:=by
   rw [seqIndex_neg (by omega) h3] at h1
   rw [List.size_toArray,<- hl]
   exact Option.some.inj h1
  exact PySem.W.ki_setBack ho (by omega) (by rw [List.size_toArray,<- hl];exact h3) (by omega) (by rw [hk];exact⟨_,I',q⟩)
theorem pU (lo hi:Option Int) (n:Nat):(sliceBounds lo hi none n).1=((HT.sIx n 0 lo:Nat):Int)/\(sliceBounds lo hi none n).2.1=((HT.sIx n n hi:Nat):Int)/\(sliceBounds lo hi none n).2.2=1:=by
 refine⟨?_,?_,rfl⟩
 ·cases lo with
  | none=>simp [sliceBounds,HT.sIx]
  | some i=>
   simp only [sliceBounds,HT.sIx,Option.getD_none,show (1:Int) > 0 by decide,if_true]
   by_cases h:i<0
   ·simp only [h,if_true] <;> omega
   ·simp only [h,if_false] <;> omega
 ·cases hi with
  | none=>simp [sliceBounds,HT.sIx]
  | some i=>
   simp only [sliceBounds,HT.sIx,Option.getD_none,show (1:Int) > 0 by decide,if_true]
   by_cases h:i<0
   ·simp only [h,if_true] <;> omega
   ·simp only [h,if_false] <;> omega
theorem nM (its:List Value) (lo hi:Option Int):slicePick its.toArray lo hi none=((its.drop (HT.sIx its.length 0 lo)).take (HT.sIx its.length its.length hi-HT.sIx its.length 0 lo)).toArray:=by
 obtain⟨h1,h2,h3⟩:=pU lo hi its.toArray.size
 unfold slicePick
 rw [h1,h2,h3]
 simp only [sliceRange_one,pick_run,List.size_toArray] <;> rfl
def rSlL (K:PySem.W.Frag):V->Option Int->Option Int->Hp->VK->Prop:=fun x lo hi H Q=>∃a xs,x=.ref a/\SqL K H a xs/\∀p,H p=none->Q (.ref p) (upd H p (.lst (cY xs lo hi)))
theorem bQ:SlR X (rSlL X.K):=by
 intro pins s σ H x v vl vu lo hi sl Q I rx hs pl pu h
 obtain⟨a,xs,rfl,hx,q⟩:=h
 cases rx
 obtain⟨its,r,ht,hz⟩:=I.list hx
 have hlen:=r.length
 refine⟨"list",_,slot_list_getitem.lookup,ht.isList.typeIs,?_⟩
 refine wpAny_getItem_list_slice ht.isList hs pl pu .none (by simp) ?_ (by rw [List.size_toArray] <;> omega)
 rw [nM,<- hlen]
 refine⟨.ref s.heap.objs.size,_,I.laid (t':=s.toks) (o:=.lst (cY xs lo hi)) (fun b ob q=>Heap.get?_push_of_some _ q) (Nat.le_refl _) ?_,rfl,q _ (I.hok.fresh (Nat.le_refl _))⟩
 exact⟨Nat.le_trans (kQ xs lo hi) hz,_,0,(r.drop (HT.sIx xs.length 0 lo)).take (HT.sIx xs.length xs.length hi-HT.sIx xs.length 0 lo),Heap.get?_push_size _ rfl⟩
def iV:V->Bool
 | .non=>true
 | .bl _=>true
 | .int _=>true
 | .str _=>true
 | _=>false
def eqV:V->V->Bool
 | .non,.non=>true
 | .bl a,.bl b=>a == b
 | .bl a,.int b=>(if a then 1 else 0) == b
 | .int a,.bl b=>a == (if b then 1 else 0)
 | .int a,.int b=>a == b
 | .str a,.str b=>a == b
 | _,_=>false
theorem eqAt_V {A:Around} {s:Shared} {y x:V} {u v:Value} (ry:cJ y u) (rx:cJ x v) (fy:iV y=true) (fx:iV x=true):SeqAt.EqAt A s u v (eqV y x):=by
 cases y with
 | non=>
  cases ry
  cases x with
  | non=>cases rx;exact SeqAt.EqAt.same _
  | bl b=>cases rx;exact SeqAt.EqAt.none_bool b
  | int b=>obtain⟨t,rfl⟩:=rx;exact SeqAt.EqAt.none_int b t
  | str b=>obtain⟨t,rfl⟩:=rx;exact SeqAt.EqAt.none_str b t
  | _=>exact absurd (show false=true from fx) Bool.false_ne_true
 | bl a=>
  cases ry
  cases x with
  | non=>cases rx;exact SeqAt.EqAt.bool_none a
  | bl b=>cases rx;exact SeqAt.EqAt.bool_bool a b
  | int b=>obtain⟨t,rfl⟩:=rx;exact SeqAt.EqAt.bool_int a b t
  | str b=>obtain⟨t,rfl⟩:=rx;exact SeqAt.EqAt.bool_str a b t
  | _=>exact absurd (show false=true from fx) Bool.false_ne_true
 | int a=>
  obtain⟨t',rfl⟩:=ry
  cases x with
  | non=>cases rx;exact SeqAt.EqAt.int_none a t'
  | bl b=>cases rx;exact SeqAt.EqAt.int_bool a t' b
  | int b=>obtain⟨t,rfl⟩:=rx;exact SeqAt.EqAt.int_int a t' b t
  | str b=>obtain⟨t,rfl⟩:=rx;exact SeqAt.EqAt.int_str a t' b t
  | _=>exact absurd (show false=true from fx) Bool.false_ne_true
 | str a=>
  obtain⟨t',rfl⟩:=ry
  cases x with
  | non=>cases rx;exact SeqAt.EqAt.str_none a t'
  | bl b=>cases rx;exact SeqAt.EqAt.str_bool a t' b
  | int b=>obtain⟨t,rfl⟩:=rx;exact SeqAt.EqAt.str_int a t' b t
  | str b=>obtain⟨t,rfl⟩:=rx;exact SeqAt.EqAt.str_str a t' b t
  | _=>exact absurd (show false=true from fx) Bool.false_ne_true
 | _=>exact absurd (show false=true from fy) Bool.false_ne_true
def eqU (x:V) (u:Value):Bool:=match u with
 | .none=>eqV .non x
 | .bool b=>eqV (.bl b) x
 | .int i _=>eqV (.int i) x
 | .str z _=>eqV (.str z) x
 | _=>false
theorem AaQ {x y:V} {u:Value} (r:cJ y u) (f:iV y=true):eqU x u=eqV y x:=by
 cases y with
 | non=>cases r;rfl
 | bl b=>cases r;rfl
 | int i=>obtain⟨t,rfl⟩:=r;rfl
 | str z=>obtain⟨t,rfl⟩:=r;rfl
 | _=>exact absurd (show false=true from f) Bool.false_ne_true
theorem qZ {x:V}:∀{xs:List V} {us:List Value},bY xs us->xs.all iV=true->us.any (eqU x)=xs.any fun y=>eqV y x
 | _,_,.nil,_=>rfl
 | y::xs,u::us,.cons r t,f=>by
  rw [List.all_cons,Bool.and_eq_true] at f
  rw [List.any_cons,List.any_cons,AaQ r f.1,qZ t f.2]
theorem mU {A:Around} {s:Shared} {x:V} {v:Value} (rx:cJ x v) (fx:iV x=true):∀{xs:List V} {us:List Value},bY xs us->xs.all iV=true->∀u ∈ us,SeqAt.EqAt A s u v (eqU x u)
 | _,_,.nil,_=>fun u hu=>by cases hu
 | y::xs,u::us,.cons r t,f=>fun u' hu=>by
  rw [List.all_cons,Bool.and_eq_true] at f
  rcases List.mem_cons.mp hu with rfl|hu
  ·rw [AaQ r f.1];exact eqAt_V r rx f.1 fx
  ·exact mU rx fx t f.2 u' hu
def inV (x:V) (xs:List V):Bool:=xs.any fun y=>eqV y x
def rIn (K:PySem.W.Frag) (neg:Bool):R2:=fun x y H Q=>∃p xs,y=.ref p/\(SqL K H p xs\/SqT K H p xs)/\iV x=true/\xs.all iV=true/\Q (.bl (if neg then !inV x xs else inV x xs)) H
theorem iK:OpR X (compareOp .In) (rIn X.K false):=by
 intro pins s σ H x y v u Q I rx ry h
 obtain⟨p,xs,rfl,hq,fx,fs,q⟩:=h
 cases ry
 rcases hq with hq|hq
 ·obtain⟨its,r,pl,hz⟩:=I.list hq
  refine SeqAt.in_listAt (eqU x) pl.isList (fun w hw=>mU rx fx r fs w (by simpa using hw)) ⟨.bl _,H,I,rfl,?_⟩
  rw [show its.toArray.any (eqU x)=its.any (eqU x) by simp,qZ r fs]
  exact q
 ·obtain⟨its,r,pl,hz⟩:=I.tuple hq
  refine SeqAt.in_tupleAt (eqU x) pl (fun w hw=>mU rx fx r fs w (by simpa using hw)) ⟨.bl _,H,I,rfl,?_⟩
  rw [show its.toArray.any (eqU x)=its.any (eqU x) by simp,qZ r fs]
  exact q
theorem bJ:eF X (.builtin "len") (fun xs H Q=>∃p ys,xs=[.ref p]/\(SqL X.K H p ys\/SqT X.K H p ys)/\Q (.int ys.length) H):=by
 intro pins s σ H xs us Q I r h
 obtain⟨p,ys,rfl,hq,q⟩:=h
 obtain⟨u,rfl,rx⟩:=gY r
 cases rx
 have hn:=jD
 rcases hq with hq|hq
 ·obtain⟨its,r',pl,hz⟩:=I.list hq
  have hlen:=r'.length
  exact Calls.call_len_list pl.isList (by simp only [List.size_toArray] <;> omega) ⟨.int ys.length,H,I.tok _,⟨s.toks+1,by rw [List.size_toArray,hlen]⟩,q⟩
 ·obtain⟨its,r',pl,hz⟩:=I.tuple hq
  have hlen:=r'.length
  exact len_tuple pl (by simp only [List.size_toArray] <;> omega) ⟨.int ys.length,H,I.tok _,⟨s.toks+1,by rw [List.size_toArray,hlen]⟩,q⟩
theorem jS:eF X (.builtin "len") (fun xs H Q=>∃z,xs=[.str z]/\z.length<=sizeLine/\Q (.int z.length) H):=by
 intro pins s σ H xs us Q I r h
 obtain⟨z,rfl,hz,q⟩:=h
 obtain⟨u,rfl,t,rfl⟩:=gY r
 have hn:=jD
 exact len_str (by omega) ⟨.int z.length,H,I.tok _,⟨_,rfl⟩,q⟩
theorem eF.or {f:Value} {r r':List V->Hp->VK->Prop} (h:eF X f r) (h':eF X f r'):eF X f (fun xs H Q=>r xs H Q\/r' xs H Q):=by
 intro pins s σ H xs us Q I rs q
 rcases q with q|q
 ·exact h pins s σ H xs us Q I rs q
 ·exact h' pins s σ H xs us Q I rs q
theorem qV:eF X (.type "list") (fun xs H Q=>∃p ys,xs=[.ref p]/\(SqL X.K H p ys\/SqT X.K H p ys)/\∀l,H l=none->Q (.ref l) (upd H l (.lst ys))):=by
 intro pins s σ H xs us Q I r h
 obtain⟨p,ys,rfl,hq,q⟩:=h
 obtain⟨u,rfl,rx⟩:=gY r
 cases rx
 have fin:∀(its:List Value),bY ys its->ys.length<=sizeLine->∀(h':Heap) (c':Nat),(∀b o',s.heap.get? b=some o'->h'.get? b=some o') ->
   h'.get? s.heap.objs.size=some { cls:=.type "list",dict:=none,data:=.seq its.toArray c',slots:=#[] }->EP X pins σ Q (.ref s.heap.objs.size) { s with heap:=h' }:=fun its r' hz h' c' kp e=>
  ⟨.ref s.heap.objs.size,_,I.laid (t':=s.toks) kp (Nat.le_refl _) (show cP X.prog X.w _ h' _ (.lst ys) from⟨hz,its,c',r',e⟩),rfl,q _ (I.hok.fresh (Nat.le_refl _))⟩
 rcases hq with hq|hq
 ·obtain⟨its,r',pl,hz⟩:=I.list hq
  have hlen:=r'.length
  obtain⟨o,ho,hc,n,hd⟩:=pl.isList
  exact call_list_seq p (.inl rfl) ho hc hd (fun h' c' kp e=>fin its r' hz h' c' kp e) (by simp only [List.size_toArray] <;> omega)
 ·obtain⟨its,r',pl,hz⟩:=I.tuple hq
  have hlen:=r'.length
  obtain⟨o,ho,hc,n,hd⟩:=pl
  exact call_list_seq p (.inr rfl) ho hc hd (fun h' c' kp e=>fin its r' hz h' c' kp e) (by simp only [List.size_toArray] <;> omega)
theorem cN:eF X (.type "tuple") (fun xs H Q=>∃p ys,xs=[.ref p]/\((SqL X.K H p ys/\∀l,H l=none->Q (.ref l) (upd H l (.tup ys)))\/(SqT X.K H p ys/\Q (.ref p) H))):=by
 intro pins s σ H xs us Q I r h
 obtain⟨p,ys,rfl,h⟩:=h
 obtain⟨u,rfl,rx⟩:=gY r
 cases rx
 rcases h with ⟨hq,q⟩|⟨hq,q⟩
 ·obtain⟨its,r',pl,hz⟩:=I.list hq
  have hlen:=r'.length
  refine call_tuple_list pl.isList (fun h' kp=>?_) (by simp only [List.size_toArray] <;> omega)
  have I1:Inv X pins σ H { s with heap:=h' }:=I.kept (t':=s.toks) kp
  have I2:Inv X pins σ (upd H h'.objs.size (.tup ys)) { s with heap:=h'.push { cls:=.type "tuple",data:=.seq its.toArray } }:=
   I1.laid (t':=s.toks) (fun b o e=>Heap.get?_push_of_some _ e) (Nat.le_refl _) (show cP X.prog X.w _ _ _ (.tup ys) from⟨hz,its,r',IsTup.new _ _⟩)
  exact⟨.ref h'.objs.size,_,I2,rfl,q _ (I1.hok.fresh (Nat.le_refl _))⟩
 ·obtain⟨its,r',pl,hz⟩:=I.tuple hq
  exact call_tuple_same pl ⟨.ref p,H,I,rfl,q⟩
def tyV (K:PySem.W.Frag) (T:String) (x:V) (H:Hp):Prop:=match x with
 | .str _=>T="str"
 | .int _=>T="int"
 | .ref p=>(T="list"/\∃xs,SqL K H p xs)\/(T="tuple"/\∃o,K.lookup p=some o/\o.cls=.type "tuple"/\o.dict=none) \/
   (T="dict"/\((∃kvs,H p=some (.dK kvs))\/∃kvs,H p=some (.dT kvs)))\/(T="set"/\∃S n,H p=some (.set S n))
 | _=>False
theorem tyV_is {pins:List (Addr × Obj)} {σ:St} {H:Hp} {s:Shared} {T:String} {x:V} {v:Value} (I:Inv X pins σ H s) (r:cJ x v) (ty:tyV X.K T x H):
  s.TypeIs v T/\∀a,v=.ref a->∃ob,s.heap.get? a=some ob/\ob.dict=none:=by
 cases x with
 | str z=>
  obtain⟨t,rfl⟩:=r
  cases (show T="str" from ty)
  exact⟨typeIs_str s z t,fun _ e=>nomatch e⟩
 | int i=>
  obtain⟨t,rfl⟩:=r
  cases (show T="int" from ty)
  exact⟨typeIs_int s i t,fun _ e=>nomatch e⟩
 | ref p=>
  cases r
  rcases ty with ⟨rfl,xs,hq⟩|⟨rfl,o,hk,hc,hd⟩|⟨rfl,hk⟩|⟨rfl,S,n,hk⟩
  ·obtain⟨its,_,pl,_⟩:=I.list hq
   refine⟨pl.isList.typeIs,fun a e=>?_⟩
   cases e
   obtain⟨o,n,e,c,hd,_⟩:=pl
   exact⟨o,e,hd⟩
  ·refine⟨⟨o,I.kIn p o hk,hc⟩,fun a e=>?_⟩
   cases e
   exact⟨o,I.kIn _ o hk,hd⟩
  ·have z:∃o,s.heap.get? p=some o/\o.ExactDict:=by
    rcases hk with ⟨kvs,hk⟩|⟨kvs,hk⟩
    ·obtain⟨_,_,_,_,o,_,_,e,ex,_⟩:=I.hok p _ hk
     exact⟨o,e,ex⟩
    ·obtain⟨_,_,_,_,o,_,_,e,ex,_⟩:=I.hok p _ hk
     exact⟨o,e,ex⟩
   obtain⟨o,e,ex⟩:=z
   refine⟨⟨o,e,ex.1⟩,fun a e2=>?_⟩
   cases e2
   exact⟨o,e,ex.2.1⟩
  ·obtain⟨o,_,_,_,e,ex,_⟩:=I.hok p _ hk
   refine⟨⟨o,e,ex.1⟩,fun a e2=>?_⟩
   cases e2
   exact⟨o,e,ex.2.1⟩
 | _=>exact False.elim ty
def tBM (K:PySem.W.Frag) (T:String) (r:V->List V->Hp->VK->Prop) (to:TE) (t:TA):TE:=fun σ H Q=>to σ H fun x H1=>tyV K T x H1/\t σ H1 fun xs H2=>r x xs H2 Q
variable {o e:Expr} {es:List Expr} {to:TE} {t:TA} {name:Str} {apos cpos:Pos} {T id:String} {r:V->List V->Hp->VK->Prop}
theorem fU (pa:PlainAttrs T) (slot:Slot T name id) (hty:typeOf (.builtin id)=pure (.type "method_descriptor")) (hm:MtR X id r) (ho:PE X o to) (ha:PA X (e::es) t)
  (hbase:attributeBase o name X.env (eval o X.env)=eval o X.env:=by rfl)
  (hfew:((backTo cpos (starEach (e::es) X.env)).all (fun x=>!x.1) && (backToKw cpos (keywordEach [] X.env)).all (fun x=>x.1.isSome)
   && decide ((e::es).length+([]:List Keyword).length+(if ([]:List Keyword).isEmpty then 0 else 1)<30))=true:=by rfl)
  (hline:(apos.endLine == cpos.line)=true:=by rfl) (hs:starEach (e::es) X.env=(false,eval e X.env)::starEach es X.env:=by rfl) (hplain:(backTo cpos (starEach es X.env)).any (·.1)=false:=by rfl):
  PE X (.Call (.Attribute o name apos) (e::es) [] cpos) (tBM X.K T r to t):=by
 intro pins s σ H Q I h
 refine wpAny_Call_method_late hbase hfew hline rfl (thn (ho s σ H _ I h) fun v s1 ⟨x,H1,I1,r1,ty,q1⟩=>?_)
 obtain⟨h1,h2⟩:=tyV_is I1 r1 ty
 refine⟨T,id,pa,slot,hty,h1,h2,?_⟩
 have hA:=@ha cpos pins s1 σ H1 _ I1 q1
 rw [hs] at hA ⊢
 refine Calls.callWith_builtin (by show (false || (backTo cpos (starEach es X.env)).any (·.1))=false;rw [hplain] <;> rfl) (Calls.evalArgs_plain ?_)
 exact thn hA fun us s2 ⟨vs,H2,I2,r2,q2⟩=>hm pins s2 σ H2 x vs v us Q I2 r1 r2 q2
end
def MtM (X:Cx) (id:String) (r:V->List V->Hp->VK->Prop):Prop:=
 ∀(pins:List (Addr × Obj)) (s:Shared) (σ:St) (H:Hp) (x:V) (xs:List V) (v:Value) (us:List Value) (Q:VK),Inv X pins σ H s->cJ x v->bY xs us->r x xs H Q ->
  wpAny (model X.prog X.w) X.A (call (.builtin id) (v::us)) (EP X pins σ Q) X.xe s
theorem bY.one:∀{x:V} {us:List Value},bY [x] us->∃u,us=[u]/\cJ x u
 | _,_,.cons r .nil=>⟨_,rfl,r⟩
theorem bY.eraseIdx:∀{xs:List V} {us:List Value} (i:Nat),bY xs us->bY (xs.eraseIdx i) (us.eraseIdx i)
 | _,_,_,.nil=>.nil
 | _,_,0,.cons _ t=>t
 | _,_,i+1,.cons r t=>.cons r (bY.eraseIdx i t)
theorem bY.rep {xs:List V} {us:List Value} (h:bY xs us):∀k:Nat,bY (List.replicate k xs).flatten (List.replicate k us).flatten
 | 0=>.nil
 | k+1=>by
  rw [List.replicate_succ,List.replicate_succ,List.flatten_cons,List.flatten_cons]
  exact bY.append h (bY.rep h k)
theorem oP {α:Type}:∀(l:List α) (i:Nat),(l.eraseIdx i).length<=l.length
 | [],_=>Nat.le_refl _
 | _::_,0=>Nat.le_succ _
 | _::r,i+1=>Nat.succ_le_succ (oP r i)
theorem oY (its:List Value):∀(k:Nat) (acc:List Value),
  List.foldl (fun x1 x2=>x1++x2) acc.toArray (List.replicate k its.toArray)=(acc++(List.replicate k its).flatten).toArray
 | 0,acc=>by simp
 | k+1,acc=>by
  have e:acc.toArray++its.toArray=(acc++its).toArray:=by simp
  have e2:(acc++its)++(List.replicate k its).flatten=acc++(List.replicate (k+1) its).flatten:=by
   rw [List.replicate_succ,List.flatten_cons,List.append_assoc]
  rw [<- e2,<- oY its k (acc++its),<- e,List.replicate_succ,List.foldl_cons]
section
variable {X:Cx} {pins:List (Addr × Obj)} {σ:St} {H:Hp} {s:Shared} {l b:Addr} {xs ys zs:List V}
theorem Inv.lset {its its':List Value} {n:Nat} {f:Array Value->Array Value} {t':Nat} (I:Inv X pins σ H s) (hH:H l=some (.lst xs))
  (e:s.heap.get? l=some { cls:=.type "list",data:=.seq its.toArray n }) (hf:f its.toArray=its'.toArray) (hv:bY ys its') (hz:ys.length<=sizeLine):
  Inv X pins σ (upd H l (.lst ys)) { s with heap:=s.heap.update l (Obj.mapSeq f),toks:=t' }:=by
 have q:=PySem.IsL.update e f
 rw [hf] at q
 refine I.write (x:=l) (e:=l) (by rw [hH];exact trivial) (.inl rfl) (fun b' u hb hu=>(Heap.get?_update_other s.heap (Obj.mapSeq f) (Ne.symm hb)).trans hu) ⟨_,q⟩ ?_
 exact⟨hz,its',_,hv,q⟩
theorem Inv.lnew {its:List Value} {t':Nat} (I:Inv X pins σ H s) (hv:bY ys its) (hz:ys.length<=sizeLine):
  Inv X pins σ (upd H s.heap.objs.size (.lst ys)) { s with heap:=s.heap.push { cls:=.type "list",data:=.seq its.toArray },toks:=t' }:=
 I.laid (fun _ _ q=>Heap.get?_push_of_some _ q) (Nat.le_refl _) ⟨hz,its,0,hv,Heap.get?_push_size _ rfl⟩
theorem Inv.fresh (I:Inv X pins σ H s):H s.heap.objs.size=none:=I.hok.fresh (Nat.le_refl _)
theorem Inv.lstM (I:Inv X pins σ H s) (hH:H l=some (.lst xs)):xs.length<=sizeLine/\∃(its:List Value) (n:Nat),bY xs its/\xs.length=its.length/\s.heap.get? l=some { cls:=.type "list",data:=.seq its.toArray n }:=by
 obtain⟨z,its,n,r,e⟩:=I.hok l _ hH
 exact⟨z,its,n,r,r.length,e⟩
theorem zT {n:Nat} (h:n<=sizeLine):Builtin.List.listTooLong n=false:=by
 unfold Builtin.List.listTooLong
 exact decide_eq_false (by omega)
end
section
variable {X:Cx}
def rAppend:V->List V->Hp->VK->Prop:=fun x vs H Q=>∃l xs y,x=.ref l/\vs=[y]/\H l=some (.lst xs)/\xs.length<sizeLine/\Q .non (upd H l (.lst (xs++[y])))
theorem gK:MtM X "list.append" rAppend:=by
 intro pins s σ H x vs v us Q I rx rv h
 obtain⟨l,xs,y,rfl,rfl,hH,hz,q⟩:=h
 cases rx
 obtain⟨u,rfl,ru⟩:=rv.one
 obtain⟨z,its,n,r,hl,e⟩:=I.lstM hH
 refine call_meets F.slot_list_append ⟨_,e,rfl⟩ F.entry_list_append (F.args_list_append_2 _ _) (PySem.list_append l its.toArray n u (by rw [List.size_toArray];omega)) ⟨e,?_⟩
 refine⟨.non,_,I.lset (its':=its++[u]) hH e (by simp) (r.append (.cons ru .nil)) ?_,rfl,q⟩
 rw [List.length_append,List.length_singleton]
 omega
def rPopAt:V->List V->Hp->VK->Prop:=fun x vs H Q=>∃l xs i k y,x=.ref l/\vs=[.int i]/\H l=some (.lst xs)/\-(2 ^ 63)<=i/\i<2 ^ 63/\seqIndex? i xs.length=some k/\xs[k]?=some y/\Q y (upd H l (.lst (xs.eraseIdx k)))
theorem zX:MtM X "list.pop" rPopAt:=by
 intro pins s σ H x vs v us Q I rx rv h
 obtain⟨l,xs,i,k,y,rfl,rfl,hH,h1,h2,hk,hy,q⟩:=h
 cases rx
 obtain⟨u,rfl,ru⟩:=rv.one
 obtain⟨t,rfl⟩:=ru
 obtain⟨z,its,n,r,hl,e⟩:=I.lstM hH
 obtain⟨w,hw,rw'⟩:=r.get hy
 refine call_meets F.slot_list_pop ⟨_,e,rfl⟩ F.entry_list_pop (F.args_list_pop_2 _ _)
  (MeetsSeq.list_pop_at l its.toArray n i t k w (fitsIndex_both h1 h2) (by rw [List.size_toArray,<- hl];exact hk) (by rw [<- Array.getElem?_toList];exact hw) (by rw [List.size_toArray];omega)) ⟨e,?_⟩
 refine⟨y,_,I.lset (its':=its.eraseIdx k) hH e ?_ (r.eraseIdx k) ?_,rw',q⟩
 ·show its.toArray.eraseIdxIfInBounds k=(its.eraseIdx k).toArray
  rw [List.eraseIdxIfInBounds_toArray]
 ·have:=oP xs k
  omega
def rCat:R2:=fun x y H Q=>∃l b xs zs,x=.ref l/\y=.ref b/\H l=some (.lst xs)/\H b=some (.lst zs)/\xs.length+zs.length<=sizeLine/\∀p,H p=none->Q (.ref p) (upd H p (.lst (xs++zs)))
theorem cE:OpR X (binaryOp .Add) rCat:=by
 intro pins s σ H x y v u Q I rx ry h
 obtain⟨l,b,xs,zs,rfl,rfl,hH,hB,hz,q⟩:=h
 cases rx
 cases ry
 obtain⟨z,its,n,r,hl,e⟩:=I.lstM hH
 obtain⟨z2,its2,n2,r2,hl2,e2⟩:=I.lstM hB
 refine PySem.P.add_list e e2 ?_ (by rw [List.size_toArray,List.size_toArray];omega)
 have ea:its.toArray++its2.toArray=(its++its2).toArray:=by simp
 rw [ea]
 exact⟨.ref _,_,I.lnew (t':=s.toks) (r.append r2) (by rw [List.length_append];omega),rfl,q _ I.fresh⟩
def rRep:R2:=fun x y H Q=>∃l k xs,x=.ref l/\y=.int k/\H l=some (.lst xs)/\-(2 ^ 63)<=k/\k<2 ^ 63/\xs.length * k.toNat<=sizeLine /\
 ∀p,H p=none->Q (.ref p) (upd H p (.lst (List.replicate k.toNat xs).flatten))
theorem wH {α:Type} (xs:List α) (k:Nat):(List.replicate k xs).flatten.length=k * xs.length:=by
 induction k with
 | zero=>simp
 | succ k ih=>rw [List.replicate_succ,List.flatten_cons,List.length_append,ih,Nat.succ_mul,Nat.add_comm]
theorem op_rep:OpR X (binaryOp .Mult) rRep:=by
 intro pins s σ H x y v u Q I rx ry h
 obtain⟨l,k,xs,rfl,rfl,hH,h1,h2,hz,q⟩:=h
 cases rx
 obtain⟨t,rfl⟩:=ry
 obtain⟨z,its,n,r,hl,e⟩:=I.lstM hH
 have hlen:its.toArray.size * k.toNat<=sizeLine:=by rw [List.size_toArray,<- hl];exact hz
 have hcap:¬ its.toArray.size * k.toNat > (2 ^ 63-1) / 8:=by
  have:(sizeLine:Nat)<=(2 ^ 63-1) / 8:=by decide
  omega
 have hfit:¬ (!Builtin.List.listFitsIndex k)=true:=by
  rw [fitsIndex_both h1 h2]
  exact Bool.false_ne_true
 have hlong:¬ Builtin.List.listTooLong (its.toArray.size * k.toNat)=true:=by
  rw [zT hlen]
  exact Bool.false_ne_true
 have hnew:List.foldl (fun x1 x2=>x1++x2) #[] (List.replicate (if its.toArray.isEmpty=true then 0 else k.toNat) its.toArray)=(List.replicate k.toNat its).flatten.toArray:=by
  have f0:∀m:Nat,List.foldl (fun x1 x2=>x1++x2) #[] (List.replicate m its.toArray)=(List.replicate m its).flatten.toArray:=fun m=>by
   have:=oY its m []
   rw [List.nil_append] at this
   exact this
  rw [f0]
  cases its with
  | nil=>simp
  | cons a r'=>rw [if_neg (by simp)]
 refine wpAny_binaryOp_repeat_ref (T:="list") (U:="int") (by decide) ⟨_,e,rfl⟩ (fun s'=>typeIs_int s' k t) noFill_list_mul F.fills_int_mul F.slot_int_rmul repeat_list F.slot_int_index.lookup
  (call_meets F.slot_int_rmul (typeIs_int s k t) F.entry_int_rmul (F.args_int_rmul_2 _ _) (int___rmul___int_list k t l its.toArray n)
   ⟨e,rfl,⟨_,e,rfl⟩,call_meets F.slot_list_mul ⟨_,e,rfl⟩ F.entry_list_mul (F.args_list_mul_2 _ _) (AutoListH.list___mul___list_int_3 l its.toArray n k t hfit hcap hlong) ⟨e,?_⟩⟩)
 rw [hnew]
 exact⟨.ref _,_,I.lnew (t':=s.toks) (r.rep k.toNat) (by rw [wH,Nat.mul_comm];exact hz),rfl,q _ I.fresh⟩
end
section
variable {prog:Program} {w:World} {A:Around} {E:Value->Shared->Prop} {s:Shared}
set_option maxRecDepth 100000 in
end
section
variable {X:Cx}
end
end L2
namespace Att
open PySem PySem.W PySem.Calls PyProof.Rows
theorem kX {P:Params} {h:Heap}:∀(ns:List Int) (vs:List Value),WellAll P h vs (ns.map WData.int)->IntsAre vs ns:=by
 intro ns
 induction ns with
 | nil=>
  intro vs w
  rw [List.map_nil] at w
  cases w
  exact .nil
 | cons n ns ih=>
  intro vs w
  rw [List.map_cons] at w
  cases w with
  | cons a b=>
   cases a
   exact .cons _ _ (ih _ b)
theorem xD {l:OpenLaw} {n:Nat} (hn:l.most=some n) {P:Params} {h:Heap} {args:List WData} {vals:List Value}
  (hpre:l.row.toRowW.claim.pre args=true) (hwl:WellAll P h vals args):
  ∃a vs ns,vals=[Value.ref a]/\args=[WData.list (ns.map WData.int)]/\h.get? a=some { cls:=.type "list",data:=.seq vs.toArray }/\IntsAre vs ns/\ns.length<=n:=by
 have hsh:WShape.hasAll [] args [.list .int]=true:=(pre_splitW hpre).1
 have hc:l.pre.holds [] { args:=args }=true:=(pre_splitW hpre).2
 obtain⟨d,r,rfl,h1,h2⟩:=hasAllW_cons hsh
 obtain rfl:=hasAllW_nil h2
 obtain⟨xs,rfl,h3⟩:=hasW_list h1
 obtain⟨ns,rfl⟩:=items_int h3
 have hlen:ns.length<=n:=by
  unfold OpenLaw.pre at hc
  have h4:(WTm.not (.lt (.lit (.int (n:Int))) (.len (.arg 0)))).holds [] { args:=[.list (ns.map .int)] }=true:=by
   have h4:=(holds_andW hc).1
   rw [hn] at h4
   exact h4
  have h5:=condW_of h4 (w_not (w_lt w_lit (w_len_list (w_arg rfl))))
  rw [List.length_map] at h5
  refine Nat.le_of_not_lt fun q=>?_
  have q':(n:Int)<((ns.length:Nat):Int):=by omega
  first
   | (rw [decide_eq_true q'] at h5;exact absurd h5 (by decide))
   | (simp at h5;omega)
 cases hwl with
 | cons w1 w2=>
  cases w2
  cases w1 with
  | list ho hall=>exact⟨_,_,ns,rfl,rfl,ho,kX ns _ hall,hlen⟩
theorem xG (l:OpenLaw) (args:List WData):l.row.toRowW.claim.post args (.bool true) args=true:=
 postW_of (r:=l.row.toRowW) (X:=(true == true))
  (show WShape.has [] (.bool true) .bool=true by first|rfl|decide|simp [WShape.has,WShape.arms,WShape.armsAll])
  (show (WTm.eq .res (.lit (.bool true))).value [] { args:=args,res:=some (.bool true),after:=args }=some (.bool (true == true)) from w_eq_bool (w_res rfl) w_lit) rfl
theorem attach_call {l:OpenLaw} {n:Nat} {q:Program} {loose:List Str} {XP:(Str->Option Value)->Heap->Prop} {YP:World->Heap->Prop} {d:DefRec}
  (hn:l.most=some n) (hdf:d.params.defaults=[])
  (call:∀(w:World) (s₀ s₁:Shared) (mg mb:Str->Option Value) (fa:Addr) (o:Obj) (pm cd doc:Value) (a:Addr) (vs:List Value) (ns:List Int),
   Ground q loose [] XP w s₀ mg mb s₁.heap->YP w s₁.heap ->
   s₁.heap.get? fa=some o->o.data=.func (docDef d.name d.params d.body d.scope pm cd doc)->s₁.heap.CodeRec cd d.name->mg d.name=some (.ref fa) ->
   s₁.heap.get? a=some { cls:=.type "list",data:=.seq vs.toArray }->IntsAre vs ns->ns.length<=n->s₁.gens=#[] ->
   codeAny (model l.prog w) callerA (.call (.ref fa) ⟨[.ref a],[]⟩) (fun r s'=>r=.ok (.ret (.bool true))/\OldK s₁.heap s'.heap/\s'.os=s₁.os/\AllBare s'.gens) s₁):
  WalkO q loose XP YP l.row.toRowW d [] (fun f vs=>PySem.call f vs):=by
 intro w s₀ s₁ mg mb G Y fa o pm cd doc dV kV ho hd hcd hD hmg hg args vals as hpre hlay hrd hwl hlo
 obtain rfl:dV=.none:=Dflts.none hD hdf
 obtain rfl:kV=.none:=Dflts.noKw hD
 obtain⟨a,vs,ns,rfl,rfl,hobj,hints,hlen⟩:=xD hn hpre hwl
 refine enter_call (codeAny_mono (call w s₀ s₁ mg mb fa o pm cd doc a vs ns G Y ho (fd_plain hd) hcd hmg hobj hints hlen hg) fun r s' hq=>?_)
 obtain⟨rfl,h2,h3,h4⟩:=hq
 exact⟨.inl ⟨.bool true,.bool true,[],rfl,fun _=>rfl,.bool true,xG l _,fun _=>⟨List.Pairwise.nil,fun _ hm=>(nomatch hm)⟩⟩,h2,h3,h4⟩
section
variable {prog:Program} {w:World} {A:Around} {E:Value->Shared->Prop} {s:Shared} {K:Frag}
end
end Att
namespace L2
open PySem PySem.Spec PyProof.Rows
theorem nV:∀{vs:List Value} {ns:List Int},IntsAre vs ns->bY (ns.map V.int) vs
 | _,_,.nil=>.nil
 | _,_,.cons n t h=>.cons ⟨t,rfl⟩ (nV h)
def Only (H:Hp):Prop:=∀b,H b=none\/∃o xs,H b=some (.frz o (.lst xs))
theorem AaC {P:Program} {w:World} {K:PySem.W.Frag} {mg mb:Str->Option Value} {CX:CXT} {k:Nat} {fa a:Addr} {fd:FuncData} {x:Str} {sp:Sp} {s₁:Shared} {vs:List Value} {ns:List Int}
  (KX:K.In s₁.heap) (hns:s₁.heap.Ns mainGlobals mg) (hb:s₁.heap.Ns builtinsNs mb) (hbb:∀x:Str,x≠"__name__"->mb x=bootBuiltins x) (hlim:s₁.heap.NoLimit) (hg:s₁.gens=#[])
  (ha:s₁.heap.get? a=some { cls:=.type "list",data:=.seq vs.toArray }) (hi:IntsAre vs ns) (hl:ns.length<=sizeLine) (hr:eS k callerA)
  (F:∀base:Heap,K.In base->base.Ns mainGlobals mg->aY P w K mg base CX k fa fd [x] sp) (hbind:∀(s:Shared) (u:Value),BindsTo s fd ⟨[u],[]⟩ [(x,u)])
  (hsp:∀H:Hp,Only H->SqL K H a (ns.map V.int)->sp [.ref a] H (fun v _=>v=.bl true) fun _ _ _=>False)
  (hCX:∀H e s',CX [] H s₁ (fun _ _ _=>False) e s'->False):
  codeAny (model P w) callerA (.call (.ref fa) ⟨[.ref a],[]⟩) (fun r s'=>r=.ok (.ret (.bool true))/\OldK s₁.heap s'.heap/\s'.os=s₁.os/\AllBare s'.gens) s₁:=by
 have rv:=nV hi
 have lenV:=hi.length
 have core:∀H:Hp,Only H->SqL K H a (ns.map V.int)->HOk P w H s₁.heap->(∀b,H b≠none->b=a)->(H a≠none->K.lookup a=none) ->
   codeAny (model P w) callerA (.call (.ref fa) ⟨[.ref a],[]⟩) (fun r s'=>r=.ok (.ret (.bool true))/\OldK s₁.heap s'.heap/\s'.os=s₁.os/\AllBare s'.gens) s₁:=by
  intro H hO hS hok hA hK
  have base_of:∀{b:Addr} {o:Obj},s₁.heap.get? b=some o->H b=none->(qL s₁.heap H).get? b=some o:=fun e n=>AaG e n
  have noA:∀{b:Addr} {o:Obj} {es:Array DictEntry} {ep:Nat},s₁.heap.get? b=some o->o.data=.dict es ep->H b=none:=fun {b o es ep} e d=>by
   cases q:H b with
   | none=>rfl
   | some u=>
    have e':b=a:=hA b (by rw [q];simp)
    subst e'
    rw [ha] at e;cases e
    have d':Data.seq vs.toArray _=Data.dict es ep:=d
    cases d'
  have nsK:∀{b:Addr} {m:Str->Option Value},s₁.heap.Ns b m->(qL s₁.heap H).Ns b m:=fun {b m} ⟨o,es,ep,e,d,r⟩=>⟨o,es,ep,base_of e (noA e d),d,r⟩
  have hKb:K.In (qL s₁.heap H):=fun b o e=>base_of (KX b o e) (by
   cases q:H b with
   | none=>rfl
   | some u=>
    have e':b=a:=hA b (by rw [q];simp)
    subst e'
    rw [hK (by rw [q];simp)] at e;cases e)
  have hM:Mod K mg (qL s₁.heap H):=⟨hKb,nsK hns,⟨mb,nsK hb,hbb⟩,let ⟨mc,h1,h2⟩:=hlim;⟨mc,nsK h1,h2⟩⟩
  have e0:Env0 P w K mg (qL s₁.heap H) callerA [] s₁ H:=⟨rfl,hM,fun b o e=>of_hidT e,Nat.le_of_eq (xT _ _),trivial,fun b hb=>absurd (show b ∈ ([]:List Addr) from hb) (by simp),hok,.of_eq hg⟩
  refine codeAny_mono ((F _ hKb (nsK hns)).run callerA [] s₁ H ⟨[.ref a],[]⟩ [.ref a] [.ref a] _ _ hr e0 (hbind s₁ (.ref a)) (.cons rfl .nil) (hsp H hO hS)) fun r s' h=>?_
  cases r with
  | error e=>exact(hCX H e s' h).elim
  | ok fl=>
   cases fl with
   | next=>exact False.elim h
   | brk=>exact False.elim h
   | cont=>exact False.elim h
   | ret u=>
    obtain⟨v,H',os,bare,un,hok',r',q⟩:=h
    have q':v=.bl true:=q
    subst q'
    obtain rfl:u=Value.bool true:=r'
    refine⟨rfl,OldK.of_keep fun b o e=>?_,os,bare⟩
    cases q:H b with
    | none=>exact un.keep b o e q (by intro z;exact absurd (show b ∈ ([]:List Addr) from z) (by simp)) (by simp)
    | some u=>
     rcases hO b with z|⟨ob,xs,z⟩
     ·rw [q] at z;cases z
     ·have z2:=un.frzs b ob _ z
      obtain⟨e1,_⟩:=hok b _ z
      obtain⟨e2,_⟩:=hok' b _ z2
      rw [e] at e1;cases e1
      exact e2
 cases hk:K.lookup a with
 | some o=>
  have e:=KX a o hk
  rw [ha] at e
  cases e
  refine core (fun _=>none) (fun _=>.inl rfl) (.inr ⟨_,vs.toArray,_,hk,rfl,rfl,rfl,by rw [List.size_toArray,lenV];exact hl,by simpa using rv⟩) (fun b u z=>by have z':(none:Option HO)=some u:=z;cases z') (fun b z=>absurd rfl z) fun z=>absurd rfl z
 | none=>
  refine core (fun b=>if b=a then some (.frz { cls:=.type "list",data:=.seq vs.toArray } (.lst (ns.map V.int))) else none) (fun b=>?_) (.inl (.inr ⟨{ cls:=.type "list",data:=.seq vs.toArray },if_pos rfl⟩)) (fun b u z=>?_) (fun b z=>?_) fun _=>hk
  ·by_cases hb:b=a
   ·exact .inr ⟨_,_,if_pos hb⟩
   ·exact .inl (if_neg hb)
  ·by_cases hb:b=a
   ·have z':=(if_pos hb).symm.trans z
    cases z'
    subst hb
    exact⟨ha,by rw [List.length_map];exact hl,vs,_,rv,ha⟩
   ·have z':=(if_neg hb).symm.trans z
    cases z'
  ·by_cases hb:b=a
   ·exact hb
   ·exact absurd (if_neg hb) z
theorem walk_of {l:PySem.W.OpenLaw} {n k:Nat} {q:Program} {loose:List Str} {XP:(Str->Option Value)->Heap->Prop} {YP:World->Heap->Prop} {d:DefRec} {K:Params->PySem.W.Frag} {CX:World->CXT} {sp:World->Sp} {x:Str}
  (hn:l.most=some n) (hn2:n<=sizeLine) (hdf:d.params.defaults=[]) (hr:eS k callerA)
  (hY:∀(w:World) (h:Heap),YP w h->(K w.params).In h)
  (F:∀(w:World) (mg:Str->Option Value) (fa:Addr) (h:Heap),(K w.params).In h->h.Ns mainGlobals mg->mg d.name=some (.ref fa) ->
   ∃fd:FuncData,(∀(s:Shared) (u:Value),BindsTo s fd ⟨[u],[]⟩ [(x,u)]) /\
    ∀base:Heap,(K w.params).In base->base.Ns mainGlobals mg->aY l.prog w (K w.params) mg base (CX w) k fa fd [x] (sp w))
  (hsp:∀(w:World) (H:Hp) (a:Addr) (ns:List Int),ns.length<=n->Only H->SqL (K w.params) H a (ns.map V.int)->sp w [.ref a] H (fun v _=>v=.bl true) fun _ _ _=>False)
  (hCX:∀(w:World) (H:Hp) (s:Shared) (e:Value) (s':Shared),CX w [] H s (fun _ _ _=>False) e s'->False):
  PySem.W.WalkO q loose XP YP l.row.toRowW d [] (fun f vs=>PySem.call f vs):=by
 refine Att.attach_call hn hdf fun w s₀ s₁ mg mb fa o pm cd doc a vs ns G Y ho hd hcd hmg hobj hints hlen hg=>?_
 have KX:=hY w _ Y
 obtain⟨fd,hb,hF⟩:=F w mg fa _ KX G.T.g hmg
 exact AaC KX G.T.g G.T.b G.T.builtins G.T.nolimit hg hobj hints (Nat.le_trans hlen hn2) hr hF hb (fun H hO hS=>hsp w H a ns hlen hO hS) fun H e s'=>hCX w H s₁ e s'
def eZ (s:Stmt):Arguments:=match s with
 | .FunctionDef _ a _ _ _ _ _ _ _ _=>a
 | _=>{ posonlyargs:=[],args:=[],vararg:=none,kwonlyargs:=[],kw_defaults:=[],kwarg:=none,defaults:=[] }
def dA (s:Stmt):List Stmt:=match s with
 | .FunctionDef _ _ b _ _ _ _ _ _ _=>b
 | _=>[]
def aM (s:Stmt):Scope:=match s with
 | .FunctionDef _ _ _ _ _ _ sc _ _ _=>sc
 | _=>{ kind:=.function,names:=[],isGenerator:=false,isCoroutine:=false }
abbrev CX0:CXT:=fun _ _ _ _ _ _=>False
abbrev E0:XK:=fun _ _ _=>False
theorem aX {X:Cx}:iD CX0 X E0:=fun _ _ _ _ _ _ _ h=>h.elim
structure Fun (K:PySem.W.Frag) (x qual:Str) (st:Stmt) (f:Addr) (fd:FuncData):Prop where
 ex:∃(oc:Value) (od:Option Addr) (kV doc pm:Value) (an:Option Addr) (cdv ct:Value) (osl:Array (Option Value)),
  fd=PySem.W.fnOf x qual (eZ st) (dA st) (aM st) .none kV doc pm an cdv ct/\K.lookup f=some ⟨oc,od,.func fd,osl⟩/\PySem.W.codeIn K cdv qual=true
 kp:PySem.W.keepIn K (.ref f)=true
section
variable {P:Program} {w:World} {K:PySem.W.Frag} {mg:Str->Option Value} {base:Heap}
theorem Fun.ok {x qual:Str} {st:Stmt} {f:Addr} {fd:FuncData} {N ps:List Str} {k:Nat} {sp:Sp} (F:Fun K x qual st f fd) (S:bO N ps (aM st)) (len:∀vs H Q E,sp vs H Q E->vs.length=ps.length)
  (hbody:∀(cdv:Value) (A:Around) (outer:List Env) (s:Shared) (H:Hp) (vs:List V) (Q:VK) (E:XK),eS k (A.deeper (envOfC qual (aM st) s.heap.objs.size f cdv))->sp vs H Q E ->
   ∃t,PSs (iS CX0 P w K mg base N qual (aM st) f cdv A outer s H E).nox (dA st) t/\t { nx:=fun _ H'=>Q .non H',rt:=Q } (dD N vs) H):aY P w K mg base CX0 (k+1) f fd ps sp:=by
 obtain⟨oc,od,kV,doc,pm,an,cdv,ct,osl,rfl,lk,hcd⟩:=F.ex
 refine fn_of lk hcd S len fun A outer s H vs Q E hr hsp=>?_
 obtain⟨t,h,q⟩:=hbody cdv A outer s H vs Q E hr hsp
 exact⟨t,h.nox,q⟩
theorem Fun.binds {x qual:Str} {st:Stmt} {f:Addr} {fd:FuncData} {ps:List Str} (F:Fun K x qual st f fd)
  (h:∀(kV doc pm:Value) (an:Option Addr) (cdv ct:Value) (us:List Value),us.length=ps.length->bindArgs (PySem.W.fnOf x qual (eZ st) (dA st) (aM st) .none kV doc pm an cdv ct) ⟨us,[]⟩=pure (ps.zip us)):bV K fd ps []:=by
 obtain⟨oc,od,kV,doc,pm,an,cdv,ct,osl,rfl,lk,hcd⟩:=F.ex
 exact .all (h kV doc pm an cdv ct)
theorem AaH {x qual:Str} {st:Stmt} {f:Addr} {oc:Value} {od an:Option Addr} {osl:Array (Option Value)} {kV doc pm cdv ct:Value} (l:K.lookup f=some ⟨oc,od,.func (PySem.W.fnOf x qual (eZ st) (dA st) (aM st) .none kV doc pm an cdv ct),osl⟩)
  (c:PySem.W.codeIn K cdv qual=true) (k:PySem.W.keepIn K (.ref f)=true):Fun K x qual st f (PySem.W.fnOf x qual (eZ st) (dA st) (aM st) .none kV doc pm an cdv ct):=⟨⟨oc,od,kV,doc,pm,an,cdv,ct,osl,rfl,l,c⟩,k⟩
end
theorem xB {n:Nat} (h:n<=1000):n<sizeLine:=Nat.lt_of_le_of_lt h (by decide)
section
variable {X:Cx}
theorem pv (i:Nat) {x:Str} {pos:Pos} (hN:X.N[i]?=some x:=by rfl) (hv:Vis X.env.scope x:=by first|exact Or.inl rfl|exact Or.inr (Or.inl rfl)|exact Or.inr (Or.inr rfl)) (hd:(x == ("__debug__":Str))=false:=by decide)
  (hcd:(x == ("__classdict__":Str))=false:=by decide):PE X (.Name x pos) (hJ i):=pe_var hN hv hd hcd
end
theorem eM {A B:Prop} (h:B):if false=true then A else B:=by
 rw [if_neg Bool.false_ne_true]
 exact h
theorem cZ {A B:Prop} (h:A):if true=true then A else B:=by
 rw [if_pos rfl]
 exact h
theorem cI {c A B:Prop} [Decidable c] (h1:c->A) (h2:¬ c->B):if c then A else B:=by
 by_cases h:c
 ·rw [if_pos h]
  exact h1 h
 ·rw [if_neg h]
  exact h2 h
def aV (H H':Hp):Prop:=∀b o,H b=some o->H' b=some o
theorem aV.refl (H:Hp):aV H H:=fun _ _ h=>h
theorem aV.trans {H H1 H2:Hp} (a:aV H H1) (b:aV H1 H2):aV H H2:=fun c o h=>b c o (a c o h)
theorem aV.free {H H':Hp} (e:aV H H') {l:Addr} (h:H' l=Option.none):H l=Option.none:=by
 cases q:H l with
 | none=>rfl
 | some o=>
  rw [e l o q] at h
  cases h
theorem aV.seq {K:PySem.W.Frag} {H H':Hp} {a:Addr} {xs:List V} (e:aV H H') (h:SqL K H a xs):SqL K H' a xs:=by
 rcases h with (h|⟨o,h⟩)|h
 ·exact .inl (.inl (e _ _ h))
 ·exact .inl (.inr ⟨o,e _ _ h⟩)
 ·exact .inr h
end L2
set_option maxHeartbeats 4000000
namespace Hd
open PySem PyProof.Rows
section
variable {M:Model} {A:Around} {E:Value->Shared->Prop} {s:Shared}
def NoCtx (h:Addr) (hp:Heap):Prop:=∃oh fs,hp.get? h=some oh/\oh.data=.fields fs/\fs[2]?=some .none
theorem NoCtx.other {h h':Heap} {e:Addr} (x:NoCtx e h) (k:h'.get? e=h.get? e):NoCtx e h':=by
 obtain⟨o,fs,z,r⟩:=x
 exact⟨o,fs,k.trans z,r⟩
theorem vC {bs:Heap} {env:Env} {rest:List Env} {L e:Addr} {o:Obj} {fs:Array Value} {hd x0:Value} {nx:Bool} {Q:Unit->Shared->Prop}
  (frm:A.frames=some (env::rest)) (ff:s.heap.FunFrames bs (env::rest)) (fr:env.frame=some L) (ho:s.heap.get? e=some o) (st:bs.StaysIn s.heap) (hn:bs.get? e=none)
  (hf:o.data=.fields fs) (f0:fs[0]?=some x0) (f2:fs[2]?=some .none)
  (q:∀h',Heap.NotedW bs (env::rest) e o.cls x0 (rawInt L) s.heap h'->NoCtx e h'->Q () { s with heap:=h' }):
  wpAny M A (do let a <- frameOf env;let pl <- entryPlaceOf L nx;let b <- EntryCells.newEntry hd a .none (rawInt L) .none pl;setField (.ref e) 1 b) Q E s:=by
 have out:e ∉ (env::rest).filterMap (·.frame):=fun z=>by
  obtain⟨_,o',z',nf⟩:=ff.mem z
  rw [ho] at z'
  cases z'
  exact nf fs hf
 have big:2<fs.size:=(Array.getElem?_eq_some_iff.mp f2).1
 refine wpAny_bind (wpAny_frameOf_fun frm ff fr fun g so=>wpAny_bind (wpAny_entryPlaceOf fun pl isP=>?_))
 unfold EntryCells.newEntry newFields
 refine wpAny_bind (wpAny_newObj_type ?_ (isP.sizeOk5 _ _ _ _ _))
 generalize hr:([hd,Value.ref L,Value.none,rawInt L,Value.none]++(if pl.isEmpty then List.replicate 6 Value.none else pl)).toArray=row
 have row3:row[3]?=some (rawInt L):=by rw [<- hr];simp
 have hg:g.get? e=some o:=(so.2.1 e out).trans ho
 have gs:bs.StaysIn g:=fun b o' z=>(so.2.1 b fun w=>by rw [(ff.mem w).1] at z;cases z).trans (st b o' z)
 have far:g.objs.size≠e:=fun z=>absurd (Heap.lt_size hg) (by rw [z];exact Nat.lt_irrefl _)
 have hp:=Heap.get?_push_of_some (h:=g) { cls:=.type "traceback",dict:=none,data:=.fields row } hg
 refine wpAny_setField hp hf (by omega) ?_
 have hd3:=Obj.data_mapFields hf (·.setIfInBounds 1 (Value.ref g.objs.size))
 have he3:=Heap.get?_update_self (Obj.mapFields (·.setIfInBounds 1 (Value.ref g.objs.size))) hp (Obj.isFreed_of_fields hd3)
 have keep:∀b o',b≠e->g.get? b=some o'->((g.push { cls:=.type "traceback",dict:=none,data:=.fields row }).update e (Obj.mapFields (·.setIfInBounds 1 (Value.ref g.objs.size)))).get? b=some o':=fun b o' nb z=>by
  rw [Heap.get?_update_other _ _ (fun w=>nb w.symm)]
  exact Heap.get?_push_of_some _ z
 have nrec:∀b o',s.heap.get? b=some o'->(∀ws,o'.data≠.fields ws)->b≠e:=fun b o' z nf w=>by
  subst w
  rw [ho] at z
  cases z
  exact nf fs hf
 refine q _ ⟨fun b o' z=>keep b o' (fun w=>by rw [w,hn] at z;cases z) (gs b o' z),ff.of_keeps fun b o' z nf=>?_,?_,fun b o' z nf=>?_⟩ ⟨_,_,he3,hd3,by rw [Array.getElem?_setIfInBounds_ne (by decide)];exact f2⟩
 ·obtain⟨sl,w⟩:=so.2.2 b o' z
  exact⟨_,keep b _ (nrec b o' z nf) w,rfl⟩
 ·refine⟨_,fs.setIfInBounds 1 (.ref g.objs.size),g.objs.size,{ cls:=.type "traceback",dict:=none,data:=.fields row },row,he3,⟨Obj.cls_mapFields _ _,by rw [Array.getElem?_setIfInBounds_ne (by decide)];exact f0⟩,hd3,by rw [Array.getElem?_setIfInBounds_self,if_pos (by omega)],gs.fresh,far,?_,rfl,row3⟩
  rw [Heap.get?_update_other _ _ (Ne.symm far)]
  exact Heap.get?_push_size g rfl
 ·obtain⟨sl,w⟩:=so.2.2 b o' z
  exact⟨sl,keep b _ (nrec b o' z nf) w⟩
theorem note2 {bs:Heap} {env:Env} {rest:List Env} {L e:Addr} {cls x0:Value} {Q:Unit->Shared->Prop}
  (frm:A.frames=some (env::rest)) (fr:env.frame=some L) (fl:Heap.FlyingW bs (env::rest) e cls x0 s.heap) (nc:NoCtx e s.heap)
  (q:∀h',Heap.NotedW bs (env::rest) e cls x0 (rawInt L) s.heap h'->NoCtx e h'->Q () { s with heap:=h' }):wpAny M A (noteFrame (.ref e) env) Q E s:=by
 obtain⟨st,hn,ff,o,fs,T,oT,ts,ho,⟨hc,f0⟩,hf,f1,bT,ne,hT,dT,t3⟩:=fl
 obtain⟨o',fs',z1,z2,f2⟩:=nc
 rw [ho] at z1
 cases z1
 rw [hf] at z2
 cases z2
 subst hc
 unfold noteFrame
 simp only [fr]
 refine wpAny_bind (wpAny_field ho hf f1 ?_)
 rw [if_pos (by simp:(Value.ref T != Value.none)=true)]
 refine wpAny_bind (wpAny_field hT dT t3 ?_)
 rw [if_neg (by simp [rawInt]:¬ ((Value.none == rawInt L)=true))]
 refine wpAny_bind (wpAny_setField hT dT (Array.getElem?_eq_some_iff.mp t3).1 ?_)
 have oth:∀b,b≠T->(s.heap.update T (Obj.mapFields (·.setIfInBounds 3 Value.none))).get? b=s.heap.get? b:=fun b z=>Heap.get?_update_other _ _ (fun w=>z w.symm)
 have nrec:∀b o',s.heap.get? b=some o'->(∀ws,o'.data≠.fields ws)->b≠T:=fun b o' z nf w=>by
  subst w
  rw [hT] at z
  cases z
  exact nf ts dT
 refine vC frm (ff.of_keeps fun b o' z nf=>⟨o',(oth b (nrec b o' z nf)).trans z,rfl⟩) fr ((oth e (Ne.symm ne)).trans ho) (fun b o' z=>(oth b fun w=>by rw [w,bT] at z;cases z).trans (st b o' z)) hn hf f0 f2 fun h' ⟨x1,x2,x3,x4⟩ nc'=>?_
 exact q h' ⟨x1,x2,x3,fun b o' z nf=>x4 b o' ((oth b (nrec b o' z nf)).trans z) nf⟩ nc'
theorem set2 {bs:Heap} {l:List Env} {e:Addr} {cls x0 fl:Value} {Q:Unit->Shared->Prop} (st:bs.StaysIn s.heap) (ff:s.heap.FunFrames bs l) (tr:s.heap.TracedAtW bs e cls x0 fl) (nc:NoCtx e s.heap)
  (q:∀h',bs.StaysIn h'->h'.FunFrames bs l->h'.TracedW bs e cls x0->s.heap.UpToSlots h'->NoCtx e h'->Q () { s with heap:=h' }):wpAny M A (setFlight (.ref e) none) Q E s:=by
 obtain⟨o,fs,T,oT,ts,ho,hc,hf,f1,bT,ne,hT,dT,t3⟩:=tr
 have sz:3<ts.size:=(Array.getElem?_eq_some_iff.mp t3).1
 unfold setFlight
 refine wpAny_bind (wpAny_field ho hf f1 ?_)
 rw [if_pos (by simp:(Value.ref T != Value.none)=true)]
 refine wpAny_setField hT dT sz ?_
 have oth:∀b,b≠T->(s.heap.update T (Obj.mapFields (·.setIfInBounds 3 ((none:Option Addr).elim Value.none fun f=>rawInt f)))).get? b=s.heap.get? b:=fun b z=>Heap.get?_update_other _ _ (fun w=>z w.symm)
 have nrec:∀b o',s.heap.get? b=some o'->(∀ws,o'.data≠.fields ws)->b≠T:=fun b o' z nf w=>by
  subst w
  rw [hT] at z
  cases z
  exact nf ts dT
 have hd3:=Obj.data_mapFields dT (·.setIfInBounds 3 ((none:Option Addr).elim Value.none fun f=>rawInt f))
 refine q _ (fun b o' z=>(oth b fun w=>by rw [w,bT] at z;cases z).trans (st b o' z)) (ff.of_keeps fun b o' z nf=>⟨o',(oth b (nrec b o' z nf)).trans z,rfl⟩) ?_ (fun b o' z nf=>⟨o'.slots,(oth b (nrec b o' z nf)).trans z⟩) (nc.other (oth e (Ne.symm ne)))
 exact⟨o,fs,T,_,_,(oth e (Ne.symm ne)).trans ho,hc,hf,f1,bT,ne,Heap.get?_update_self _ hT (Obj.isFreed_of_fields hd3),hd3,by simp [sz]⟩
theorem upT {h h1 h2:Heap} (x:∀b o,h.get? b=some o->(∀vs,o.data≠.fields vs)->∃sl,h1.get? b=some { o with slots:=sl }) (y:h1.UpToSlots h2):h.UpToSlots h2:=Heap.UpToSlots.trans x y
theorem made2 {bs h:Heap} {env:Env} {rest:List Env} {L e:Addr} {cls:Value} {args:List Value} {Q:Unit->Shared->Prop} (frm:A.frames=some (env::rest)) (fr:env.frame=some L) (st:bs.StaysIn h) (ff:h.FunFrames bs (env::rest)) (hx:Heap.MadeExcOf h s.heap e cls args)
  (q:∀h' x0,Heap.FlyingW bs rest e cls x0 h'->s.heap.UpToSlots h'->NoCtx e h'->Q () { s with heap:=h' }):wpAny M A (leaving env (.ref e)) Q E s:=by
 obtain⟨t,he,_,_⟩:=hx.there
 have hn:bs.get? e=none:=by
  cases z:bs.get? e with
  | none=>rfl
  | some o=>
   have w:=st e o z
   rw [hx.new] at w
   cases w
 unfold leaving noteFrame
 simp only [fr]
 refine wpAny_bind (wpAny_bind (wpAny_field he rfl (x:=.none) rfl ?_))
 rw [if_neg (by decide)]
 refine vC frm (ff.of_keeps fun b o z _=>⟨o,hx.keeps b o z,rfl⟩) fr he (fun b o z=>hx.keeps b o (st b o z)) hn rfl rfl rfl fun h1 ⟨x1,x2,x3,x4⟩ nc1=>?_
 refine set2 (s:={ s with heap:=h1 }) x1 x2 x3 nc1 fun h2 y1 y2 y3 y4 nc2=>?_
 obtain⟨_,_,y2⟩:=y2
 exact q h2 _ ⟨y1,hn,y2,y3⟩ (upT x4 y4) nc2
theorem leave2 {bs:Heap} {env:Env} {rest:List Env} {L e:Addr} {cls x0:Value} {Q:Unit->Shared->Prop} (frm:A.frames=some (env::rest)) (fr:env.frame=some L) (fl:Heap.FlyingW bs (env::rest) e cls x0 s.heap) (nc:NoCtx e s.heap)
  (q:∀h',Heap.FlyingW bs rest e cls x0 h'->s.heap.UpToSlots h'->NoCtx e h'->Q () { s with heap:=h' }):wpAny M A (leaving env (.ref e)) Q E s:=by
 have hn:=fl.2.1
 unfold leaving
 refine wpAny_bind (note2 frm fr fl nc fun h1 ⟨x1,x2,x3,x4⟩ nc1=>?_)
 refine set2 (s:={ s with heap:=h1 }) x1 x2 x3 nc1 fun h2 y1 y2 y3 y4 nc2=>?_
 obtain⟨_,_,y2⟩:=y2
 exact q h2 ⟨y1,hn,y2,y3⟩ (upT x4 y4) nc2
theorem look2 {bs:Heap} {env:Env} {rest:List Env} {L e:Addr} {cls x0:Value} {Q:Unit->Shared->Prop} (frm:A.frames=some (env::rest)) (fr:env.frame=some L) (fl:Heap.FlyingW bs (env::rest) e cls x0 s.heap) (nc:NoCtx e s.heap)
  (q:∀h',Heap.HeldW bs (env::rest) e cls x0 L h'->s.heap.UpToSlots h'->NoCtx e h'->Q () { s with heap:=h' }):wpAny M A (noteFrame (.ref e) env) Q E s:=by
 have hn:=fl.2.1
 refine note2 frm fr fl nc fun h1 ⟨x1,x2,x3,x4⟩ nc1=>q h1 ⟨x1,hn,x2,x3⟩ x4 nc1
theorem land2 {bs:Heap} {l:List Env} {L e:Addr} {cls x0:Value} {Q:Unit->Shared->Prop} (hh:Heap.HeldW bs l e cls x0 L s.heap) (nc:NoCtx e s.heap)
  (q:∀h',Heap.FlyingW bs l e cls x0 h'->s.heap.UpToSlots h'->NoCtx e h'->Q () { s with heap:=h' }):wpAny M A (setFlight (.ref e) none) Q E s:=by
 obtain⟨x1,hn,x2,x3⟩:=hh
 exact set2 x1 x2 x3 nc fun h' y1 y2 y3 y4 nc2=>q h' ⟨y1,hn,y2,y3⟩ y4 nc2
theorem again2 {bs:Heap} {l:List Env} {e:Addr} {cls x0:Value} {Q:Unit->Shared->Prop} (hh:Heap.FlyingW bs l e cls x0 s.heap) (nc:NoCtx e s.heap)
  (q:∀h',Heap.FlyingW bs l e cls x0 h'->s.heap.UpToSlots h'->NoCtx e h'->Q () { s with heap:=h' }):wpAny M A (setFlight (.ref e) none) Q E s:=by
 obtain⟨x1,hn,x2,x3⟩:=hh
 exact set2 x1 x2 x3.at nc fun h' y1 y2 y3 y4 nc2=>q h' ⟨y1,hn,y2,y3⟩ y4 nc2
end
end Hd
namespace L2
open PySem PySem.Spec PyProof.Rows
theorem cP.is {P:Program} {w:World} {H:Hp} {h:Heap} {a:Addr} {o:HO} (x:cP P w H h a o):∃ob,h.get? a=some ob:=by
 cases o with
 | lst xs=>obtain⟨_,_,_,_,q⟩:=x;exact⟨_,q⟩
 | tup xs=>obtain⟨_,_,_,ob,q,_⟩:=x;exact⟨_,q⟩
 | dK kvs=>obtain⟨_,_,_,_,ob,_,_,q,_⟩:=x;exact⟨_,q⟩
 | dT kvs=>obtain⟨_,_,_,_,ob,_,_,q,_⟩:=x;exact⟨_,q⟩
 | set S n=>obtain⟨ob,_,_,_,q,_⟩:=x;exact⟨_,q⟩
 | ins C dx fs=>obtain⟨_,_,_,q,_⟩:=x;exact⟨_,q⟩
 | own y=>exact x
 | xd fs=>obtain⟨_,⟨_,_,_,q,_⟩,_⟩:=x;exact⟨_,q⟩
 | rng lo hi=>obtain⟨_,_,_,q⟩:=x;exact⟨_,q⟩
 | frz ob u=>obtain⟨q,_⟩:=x;exact⟨_,q⟩
 | tbl ps=>exact⟨_,(show h.get? a=some _ from x)⟩
 | met f y=>exact⟨_,(show h.get? a=some _ from x)⟩
 | ext φ=>obtain⟨_,q,_⟩:=x;exact q
structure Fly (P:Program) (w:World) (outer:List Env) (H:Hp) (h:Heap) (ea:Addr) (cls a0:Value) (H':Hp) (B h':Heap):Prop where
 fly:Heap.FlyingW B outer ea cls a0 h'
 nc:Hd.NoCtx ea h'
 hok:HOk P w H' B
 new:h.get? ea=none
 keepB:∀b o,h.get? b=some o->H b=none->b ∉ frs outer->B.get? b=some o
 slot:∀b o,h.get? b=some o->b ∈ frs outer->∃sl,h'.get? b=some { o with slots:=sl }
 free:∀b o,h.get? b=some o->H b=none->H' b=none
 thereB:∀b o,h.get? b=some o->b ∉ frs outer->∃o',B.get? b=some o'
 tups:∀b xs,H b=some (.tup xs)->H' b=some (.tup xs)
 frzs:∀b o u,H b=some (.frz o u)->H' b=some (.frz o u)
 tbls:∀b ps,H b=some (.tbl ps)->∃more,H' b=some (.tbl (ps++more))
section
variable {P:Program} {w:World} {outer:List Env} {H H':Hp} {h h' h2 B:Heap} {ea:Addr} {cls a0:Value}
theorem Fly.freeE (F:Fly P w outer H h ea cls a0 H' B h'):H' ea=none:=by
 cases q:H' ea with
 | none=>rfl
 | some o=>
  obtain⟨ob,z⟩:=(F.hok ea o q).is
  rw [F.fly.2.1] at z
  cases z
theorem Fly.later (F:Fly P w outer H h ea cls a0 H' B h') (fl:Heap.FlyingW B outer ea cls a0 h2) (nc:Hd.NoCtx ea h2) (up:h'.UpToSlots h2):Fly P w outer H h ea cls a0 H' B h2 where
 fly:=fl
 nc:=nc
 hok:=F.hok
 new:=F.new
 keepB:=F.keepB
 slot:=fun b o q hb=>by
  obtain⟨sl,z⟩:=F.slot b o q hb
  obtain⟨_,o',z',nf⟩:=F.fly.2.2.1.mem hb
  rw [z] at z'
  cases z'
  obtain⟨sl',z2⟩:=up b _ z nf
  exact⟨sl',z2⟩
 free:=F.free
 thereB:=F.thereB
 tups:=F.tups
 frzs:=F.frzs
 tbls:=F.tbls
theorem Fly.un (F:Fly P w outer H h ea cls a0 H' B h'):Un (frs outer) [] H H' h h' where
 keep:=fun b o q n hb _=>F.fly.1 b o (F.keepB b o q n hb)
 slot:=fun b o q _ hb _=>F.slot b o q hb
 free:=fun b o q n _=>F.free b o q n
 there:=fun b o q _=>by
  by_cases hb:b ∈ frs outer
  ·obtain⟨sl,z⟩:=F.slot b o q hb
   exact⟨_,z⟩
  ·obtain⟨o',z⟩:=F.thereB b o q hb
   exact⟨o',F.fly.1 b o' z⟩
 tups:=F.tups
 frzs:=F.frzs
 tbls:=F.tbls
theorem Fly.hokN (F:Fly P w outer H h ea cls a0 H' B h'):HOk P w H' h':=F.hok.kept F.fly.1
end
def CXE (P:Program) (w:World):CXT:=fun outer H s E e s'=>∃(ea:Addr) (cls a0:Value) (H':Hp) (B:Heap),
 e=Value.ref ea/\s'.os=s.os/\AllBare s'.gens/\Fly P w outer H s.heap ea cls a0 H' B s'.heap/\E cls none H'
def tM (X:Cx) (C:Addr) (R:Hp->Prop):Prop:=
 ∀(pins:List (Addr × Obj)) (σ:St) (H:Hp) (s:Shared) (h':Heap) (e:Addr) (vs:List Value),Inv X pins σ H s->Heap.MadeExcOf s.heap h' e (.ref C) vs->R H->X.xe (.ref e) { s with heap:=h' }
theorem eR {env:Env} {outer:List Env} {L:Addr} (hf:env.frame=some L):frs (env::outer)=L::frs outer:=by
 unfold frs
 rw [List.filterMap_cons,hf]
section
variable {P:Program} {w:World} {K:PySem.W.Frag} {mg:Str->Option Value} {base:Heap} {N:List Str} {qual:Str} {scope:Scope} {f:Addr} {cd:Value} {A:Around} {outer:List Env} {s₀:Shared} {H₀:Hp} {E:XK}
theorem cR {C:Addr}:tM (iS (CXE P w) P w K mg base N qual scope f cd A outer s₀ H₀ E) C (fun H=>E (.ref C) none H):=by
 intro pins σ H s h' e vs I hx hE
 have stk:s.heap.FunFrames (PySem.W.hideAll s.heap (frs (envOfC qual scope s₀.heap.objs.size f cd::outer))) (envOfC qual scope s₀.heap.objs.size f cd::outer):=
  PySem.W.funFrames_hide I.stack fun env he a ha=>List.mem_filterMap.mpr ⟨env,he,ha⟩
 have nof:∀b,(H b).isSome=true->b ∉ frs (envOfC qual scope s₀.heap.objs.size f cd::outer):=fun b hb z=>by
  rw [I.stkFree b z] at hb
  cases hb
 have low:∀b o,s₀.heap.get? b=some o->b ∉ frs outer->b ∉ frs (envOfC qual scope s₀.heap.objs.size f cd::outer):=fun b o q hb z=>by
  rw [eR (L:=s₀.heap.objs.size) rfl] at z
  rcases List.mem_cons.mp z with z|z
  ·rw [z] at q
   exact absurd (Heap.lt_size q) (Nat.lt_irrefl _)
  ·exact hb z
 show wpAny _ _ (leaving _ (.ref e)) _ _ _
 refine Hd.made2 (bs:=PySem.W.hideAll s.heap (frs (envOfC qual scope s₀.heap.objs.size f cd::outer))) (h:=s.heap) (rest:=outer) I.ok.frames rfl (fun b o q=>PySem.W.of_hideAll _ q) stk hx fun h2 t x1 x4 xn=>?_
 refine⟨e,.ref C,t,H,_,rfl,I.os,I.bare,⟨x1,xn,fun a o q=>?_,?_,fun b o q n hb=>?_,fun b o q hb=>?_,fun b o q n=>I.base.free b o q n (by intro z;cases z),fun b o q hb=>?_,I.base.tups,I.base.frzs,I.base.tbls⟩,hE⟩
 ·refine(I.hok a o q).stay (fun b u hb r=>PySem.W.hideAll_get _ r (nof b ?_)) (fun _ z=>z) fun _ _ z=>z
  rcases hb with rfl|hb
  ·rw [q];rfl
  ·rw [hb];rfl
 ·cases q:s₀.heap.get? e with
  | none=>rfl
  | some o=>
   obtain⟨o',z⟩:=I.base.there e o q (by intro z;cases z)
   rw [hx.new] at z
   cases z
 ·exact PySem.W.hideAll_get _ (I.base.keep b o q n hb (by intro z;cases z)) (low b o q hb)
 ·obtain⟨sl,z⟩:=I.base.slot b o q (I.ok.frf b hb) hb (by intro z;cases z)
  obtain⟨_,o',z',nf⟩:=I.funs.mem hb
  rw [z] at z'
  cases z'
  obtain⟨sl',z2⟩:=x4 b _ (hx.keeps b _ z) nf
  exact⟨sl',z2⟩
 ·obtain⟨o',z⟩:=I.base.there b o q (by intro z;cases z)
  exact⟨o',PySem.W.hideAll_get _ z (low b o q hb)⟩
theorem cS {E':XK} (hE:∀cls d H,E' cls d H->E cls d H):iD (CXE P w) (iS (CXE P w) P w K mg base N qual scope f cd A outer s₀ H₀ E) E':=by
 intro pins σ H s e s' I hc
 obtain⟨ea,cls,a0,H',B,rfl,os,bare,F,hE'⟩:=hc
 have low:∀b o,s₀.heap.get? b=some o->b ∉ frs outer->b ∉ frs (envOfC qual scope s₀.heap.objs.size f cd::outer):=fun b o q hb z=>by
  rw [eR (L:=s₀.heap.objs.size) rfl] at z
  rcases List.mem_cons.mp z with z|z
  ·rw [z] at q
   exact absurd (Heap.lt_size q) (Nat.lt_irrefl _)
  ·exact hb z
 have up:∀b,b ∈ frs outer->b ∈ frs (envOfC qual scope s₀.heap.objs.size f cd::outer):=fun b hb=>by
  rw [eR (L:=s₀.heap.objs.size) rfl]
  exact List.mem_cons_of_mem _ hb
 show wpAny _ _ (leaving _ (.ref ea)) _ _ _
 refine Hd.leave2 (rest:=outer) I.ok.frames rfl F.fly F.nc fun h2 x1 x4 xn=>?_
 refine⟨ea,cls,a0,H',B,rfl,os.trans I.os,bare,⟨x1,xn,F.hok,?_,fun b o q n hb=>?_,fun b o q hb=>?_,fun b o q n=>?_,fun b o q hb=>?_,fun b xs q=>F.tups b xs (I.base.tups b xs q),fun b o u q=>F.frzs b o u (I.base.frzs b o u q),fun b ps q=>?_⟩,hE _ _ _ hE'⟩
 ·cases q:s₀.heap.get? ea with
  | none=>rfl
  | some o=>
   obtain⟨o',z⟩:=I.base.there ea o q (by intro z;cases z)
   rw [F.new] at z
   cases z
 ·exact F.keepB b o (I.base.keep b o q n hb (by intro z;cases z)) (I.base.free b o q n (by intro z;cases z)) (low b o q hb)
 ·obtain⟨sl,z⟩:=I.base.slot b o q (I.ok.frf b hb) hb (by intro z;cases z)
  obtain⟨sl2,z2⟩:=F.slot b _ z (up b hb)
  obtain⟨_,o',z',nf⟩:=F.fly.2.2.1.mem (up b hb)
  rw [z2] at z'
  cases z'
  obtain⟨sl',z3⟩:=x4 b _ z2 nf
  exact⟨sl',z3⟩
 ·obtain⟨o',z⟩:=I.base.there b o q (by intro z;cases z)
  exact F.free b o' z (I.base.free b o q n (by intro z;cases z))
 ·obtain⟨o',z⟩:=I.base.there b o q (by intro z;cases z)
  exact F.thereB b o' z (low b o q hb)
 ·obtain⟨m1,z⟩:=I.base.tbls b ps q
  obtain⟨m2,z2⟩:=F.tbls b _ z
  exact⟨m1++m2,by rw [z2,Array.append_assoc]⟩
end
abbrev yE:List Value:=[.type "ValueError",.type "Exception",.type "BaseException",.type "object"]
def ExcIs (K:PySem.W.Frag) (C:Addr):Prop:=PySem.W.excIn K C yE "ValueError.__new__"=true
theorem xV {K:PySem.W.Frag} {h:Heap} {C:Addr} (X:K.In h) (q:ExcIs K C):
  ∃bm N nm qn bs hdct sn sub ab col dd k0 k1 k2 k3 k5 mN,h.get? C=some (excClassObj nm qn C N bs bm hdct sn sub ab col dd k0 k1 k2 k3 k5 "ValueError.__new__")/\h.Ns N mN/\mN "__init__"=none/\OwnTail h yE bm:=by
 unfold ExcIs PySem.W.excIn at q
 split at q
 ·next dd cd sl ho=>
  split at q
  ·next C' bm k0 k1 k2 k3 n k5 hm hs=>
   simp only [Bool.and_eq_true,beq_iff_eq,Bool.not_eq_true'] at q
   obtain⟨⟨⟨⟨⟨e1,e2⟩,e3⟩,e4⟩,e5⟩,e6⟩:=q
   subst e1
   subst e2
   obtain⟨nm,bs,mro,ns,qn,hd,sn,sub,ab,col,del⟩:=cd
   dsimp only at hm e3 e5 e6
   subst hm
   subst e3
   have hsl:sl=#[k0,k1,k2,k3,some (.builtin "ValueError.__new__"),k5]:=by
    cases sl with
    | mk l=>
     have hs':l=[k0,k1,k2,k3,some (.builtin "ValueError.__new__"),k5]:=hs
     rw [hs']
   subst hsl
   exact⟨bm,ns,nm,qn,bs,hd,sn,sub,ab,col,dd,k0,k1,k2,k3,k5,_,X _ _ ho,.of_isNs (PySem.W.isNs_of_in X e5),PySem.W.nsMap_none_of_in X e5 e6,PySem.W.tail_of_in X e4⟩
  ·cases q
 ·cases q
section
variable {X:Cx} {x:Str} {C:Addr} {R:Hp->Prop} {e₀:Expr} {ta:TA} {np cpos pos:Pos}
def tRaise (ta:TA) (R:Hp->Prop):TS:=fun _ σ H=>ta σ H fun vs H1=>vs.length<=sizeLine/\R H1
theorem dQ (hc:X.calm=true) (EC:ExcIs X.K C) (hg:Gl X x) (hm:X.mg x=some (.ref C)) (hR:tM X C R) (ha:PA X [e₀] ta)
  (he:starEach [e₀] X.env=[(false,eval e₀ X.env)]:=by rfl) (hd:(x == ("__debug__":Str))=false:=by decide):
  PS X (.Raise (some (.Call (.Name x np) [e₀] [] cpos)) none pos) (tRaise ta R):=by
 intro pins s σ H D I h
 obtain⟨tl,N,nm,q,bs,hdct,sn,sub,ab,col,dd,k0,k1,k2,k3,k5,mN,hC,hN,hni,T⟩:=xV I.mod.kin EC
 refine wpAny_Raise_call_subT (C:=C) (nm:=nm) (q:=q) (N:=N) (bs:=bs) (bm:=tl) (hdct:=hdct) (sn:=sn) (sub:=sub) (ab:=ab) (col:=col) (dd:=dd) (k0:=k0) (k1:=k1) (k2:=k2) (k3:=k3) (k5:=k5)
  PySem.F.excBase_ValueError (mN:=mN) (T.hasType PySem.F.excBase_ValueError.hasBase) (I.ok.hd hc) (by rw [he];rfl) hni (gT I hg hm ⟨rfl,?_⟩ hd)
 have key:=@ha cpos pins s σ H _ I h
 rw [he] at key ⊢
 refine Calls.evalArgs_plain (wpAny_mono key (fun us s2 hq=>?_) fun _ _ z=>z)
 obtain⟨vs,H1,I1,rv,hl,hR1⟩:=hq
 refine⟨rfl,?_,I1.bk _ _ hC,hN.keeps I1.bk,T.keeps I1.bk,fun h' e hx=>hR pins σ H1 s2 h' e _ I1 hx hR1⟩
 show us.length<=sizeLine
 rw [<- rv.length]
 exact hl
end
end L2
namespace L2
open PySem PySem.Spec PyProof.Rows PySem.W PySem.Calls Builtin Builtin.ObjectAttr Builtin.Getset_descriptor
structure nK (K:Frag) (C:Addr):Prop where
 exc:ExcIs K C
 cl:(clsIn K C).isSome=true
 ga:findIn K (.ref C) "__getattribute__"=some (some (.builtin "BaseException.__getattribute__"))
 gh:findIn K (.ref C) "__getattr__"=some none
 ca:findIn K (.ref C) "__class__"=some (some (.builtin "object.__class__"))
 cg:specialIn K (.builtin "object.__class__") "__get__"=some (some (.builtin "getset_descriptor.__get__"))
 ct:takesIn K (.builtin "object.__class__")=some true
 mo:mroIn K C (.type "object")=some true
 mb:mroIn K C (.type "BaseException")=some true
def iW (e C:Addr) (h:Heap):Prop:=∃o,h.get? e=some o/\o.cls=.ref C
section
variable {K:Frag} {e C:Addr}
theorem iW.ty {M:Model} {h:Heap} (p:iW e C h):Looks M h (typeOf (.ref e)) (.ref C):=by
 obtain⟨o,h1,h2⟩:=p
 exact h2 ▸ (Looks.ld h1).andThen .now
theorem xW {M:Model} {h:Heap} (X:K.In h) (T:nK K C):Looks M h (find (.ref e) (.ref C) "__class__") (.bind (.builtin "getset_descriptor.__get__") (.builtin "object.__class__")):=by
 have L1:=looks_findIn (M:=M) X T.ca
 have L2:=looks_specialIn (M:=M) X T.cg
 have L3:=looks_takesIn (M:=M) X T.ct
 refine L1.andThen (L2.andThen ?_)
 exact(show Looks M h (dataDescriptor? (some _) (some _)) (some (_,_)) from L3.andThen .now).andThen (Looks.tag .now)
variable {prog:Program} {w:World} {A:Around} {E:Value->Shared->Prop} {s:Shared} {R:Result->Shared->Prop}
theorem nP {tp:Value} (X:K.In s.heap) (T:nK K C) (p:iW e C s.heap) (h:R (.ok (.ret (.ref C))) s):
  codeAny (model prog w) A (.call (.builtin "getset_descriptor.__get__") ⟨[.builtin "object.__class__",.ref e,tp],[]⟩) R s:=by
 obtain⟨hh,g,dr,t,os⟩:=s
 have La:=p.ty (M:=model prog w)
 have Lb:=looks_mroIn (M:=model prog w) X T.mo
 refine codeAny_call_builtin KF.slot_gs.plain KF.entry_gs (KF.slot_gs.check _ _ _ _ _ _ _ _ KF.type_class (KF.args_gs _ _ _) ?_)
 unfold Builtin.«getset_descriptor.__get__» descrGet
 rw [dga_obj]
 refine wpAny_bind (wpAny_pure ?_)
 unfold descrGetter descrCheckInstance descrNameAndClass isInstance
 simp only [KF.owner_class]
 repeat lk
 refine⟨Code.quiet_builtin _ (by decide +kernel),codeAny_builtin KF.entry_class ?_⟩
 unfold Builtin.«object.__class__» shownTypeOf
 repeat lk
 exact h
end
section
variable {K:Frag} {e C:Addr} {prog:Program} {w:World} {A:Around} {E:Value->Shared->Prop} {s:Shared} {R:Result->Shared->Prop}
theorem qR {M:Model} {nameV:Value} {Q:Unit->Shared->Prop} (X:K.In s.heap) (T:nK K C) (p:iW e C s.heap) (hq:Q () s):
  wpAny M A (checkBuiltinCall "BaseException.__getattribute__" ⟨[.ref e,nameV],[]⟩) Q E s:=by
 have hk:builtinKind "BaseException.__getattribute__"=some .slot:=by decide +kernel
 have hsp:splitId "BaseException.__getattribute__"=some ("BaseException","__getattribute__"):=by decide +kernel
 have ha:=F.args_bexc_ga (.ref e) nameV
 have Li:Looks M s.heap (isInstance (.ref e) (.type "BaseException")) true:=p.ty.andThen (looks_mroIn X T.mb)
 obtain⟨hh,g,dr,t,os⟩:=s
 simp only [checkBuiltinCall,hk,hsp]
 refine wpAny_bind (Li.at ?_)
 repeat (first|wp_step)
 exact hq
theorem sZ {tk:Tok} {Q:Fin->Shared->Prop} (X:K.In s.heap) (T:nK K C) (p:iW e C s.heap) (hq:Q (.done (.ret (.ref C))) s):
  wpAny (model prog w) A (Builtin.«object.__getattribute__» ⟨[.ref e,.str "__class__" tk],[]⟩) Q E s:=by
 have La:=p.ty (M:=model prog w)
 have Lf:=xW (M:=model prog w) (e:=e) X T
 obtain⟨hh,g,dr,t,os⟩:=s
 unfold Builtin.«object.__getattribute__»
 repeat (first|with_reducible refine La.at ?_|with_reducible refine Lf.at ?_|wp_step)
 refine nP X T p ?_
 exact wpAny_pure hq
theorem qQ {Q:Option Value->Shared->Prop} (X:K.In s.heap) (T:nK K C) (p:iW e C s.heap) (h:Q (some (.ref C)) { s with toks:=s.toks+1 }):
  wpAny (model prog w) A (getAttr? (.ref e) "__class__") Q E s:=by
 have La:=p.ty (M:=model prog w)
 have Lga:=looks_findIn (M:=model prog w) X T.ga
 have Lgh:=looks_findIn (M:=model prog w) X T.gh
 have f3:=F.attr_ValueError.ga.bind (.ref e)
 have hx2:(Value.builtin "BaseException.__getattribute__" == Value.builtin "object.__getattribute__")=false:=by decide +kernel
 obtain⟨hh,g,dr,t,os⟩:=s
 unfold getAttr? getAttrBy? getAttrBy
 refine wpAny_bind (wpAny_mkText (wpAny_bind (wpAny_attempt (wpAny_holding (wpAny_bind (La.at (wpAny_bind (Lga.at ?_))))))))
 dsimp only
 rw [if_neg (by rw [hx2];simp)]
 unfold getAttrByItsOwn hookBefore
 refine wpAny_bind (Lgh.at ?_)
 refine wpAny_bind (wpAny_attempt (wpAny_holding ?_))
 unfold callGetattribute boundAndCalled
 rw [if_neg (by simp)]
 rw [f3]
 refine wpAny_bind (wpAny_pure ?_)
 refine wpAny_call (codeAny_call_builtin F.attr_ValueError.ga.plain F.entry_bexc_ga (qR X T p (sZ X T p ?_)))
 refine wpAny_pure (wpAny_pure ?_)
 exact h
theorem AaD (T:nK K C):KitX K (.ref e) (.ref C) (iW e C) where
 ty:=fun _ _ _ p=>p.ty
 it:=fun _ _ X _=>by
  have z0:=T.cl
  unfold clsIn at z0
  split at z0
  ·next c' d' cd' sl' ho=>
   intro A' Q' E' s' k q
   unfold isType loadHead
   exact wpAny_bind (wpAny_loadPart (k _ _ (X _ _ ho)) (wpAny_pure q))
  ·cases z0
 ne:=fun h tp dd its n sl X htp=>by
  have z0:=T.cl
  refine Bool.eq_false_iff.mpr fun q=>?_
  have eq:C=tp:=Value.ref.inj (beq_iff_eq.mp q)
  subst eq
  unfold clsIn at z0
  split at z0
  ·next c' d' cd' sl' ho=>
   have z:=(X _ _ ho).symm.trans htp
   cases z
  ·cases z0
 ca:=fun X p k=>qQ X T p k
end
def iQ (e C:Addr):HO:=.ext fun hp=>iW e C hp/\Hd.NoCtx e hp
theorem excO_ok {P:Program} {w:World} {H:Hp} {h:Heap} {e C:Addr} (p:iW e C h) (n:Hd.NoCtx e h):cP P w H h e (iQ e C):=by
 refine⟨⟨p,n⟩,?_,fun h1 h2 q k=>?_⟩
 ·obtain⟨o,z,_⟩:=p
  exact⟨o,z⟩
 ·obtain⟨⟨o,z,c⟩,o',fs,z',r⟩:=q
  exact⟨⟨o,k o z,c⟩,o',fs,k o' z',r⟩
section
variable {X:Cx}
inductive IsC:V->Value->Prop where
 | ty (n:String):IsC (.ty n) (.type n)
 | ref (a:Addr):IsC (.ref a) (.ref a)
def fQ (K:PySem.W.Frag):List V->Hp->VK->Prop:=fun xs H Q=>∃x y c b,xs=[x,y]/\IsC y c/\((∃t,gW K H x t/\PySem.W.kitOne K t c=some b)\/∃e C,x=.ref e/\H e=some (iQ e C)/\nK K C/\PySem.W.kitOne K (.ref C) c=some b)/\Q (.bl b) H
theorem bG:eF X (.builtin "isinstance") (fQ X.K):=by
 intro pins s σ H xs us Q I r h
 obtain⟨x,y,c,b,rfl,ry,hh,q⟩:=h
 obtain⟨u,v,rfl,rx,rv⟩:=vH r
 have ec:v=c:=by
  cases ry with
  | ty n=>exact rv
  | ref a=>exact rv
 subst ec
 rcases hh with ⟨t,ty,e⟩|⟨ea,C,rfl,he,T,e⟩
 ·exact xR I rx ty e fun tk=>⟨.bl b,H,I.tok tk,rfl,q⟩
 ·cases (show u=Value.ref ea from rx)
  obtain⟨⟨p,_⟩,_⟩:=(show cP X.prog X.w H s.heap ea (iQ ea C) from I.hok ea _ he)
  exact kia_one (AaD T) I.kIn p e (fun z=>nomatch z) fun tk=>⟨.bl b,H,I.tok tk,rfl,q⟩
end
end L2
namespace L2
open PySem PySem.Spec PyProof.Rows
theorem Inv.re {X Y:Cx} {pins pins':List (Addr × Obj)} {σ:St} {H:Hp} {s:Shared} (I:Inv X pins σ H s) (ok:Y.Ok) (e1:Y.prog=X.prog) (e2:Y.w=X.w) (e3:Y.N=X.N) (e4:Y.s₀=X.s₀) (e5:Y.H₀=X.H₀) (e6:Y.env=X.env) (e7:Y.outer=X.outer) (e8:Y.ex=X.ex)
  (hp:∀p ∈ Y.pn++pins',p ∈ X.pn++pins):Inv Y pins' σ H s:=by
 obtain⟨prog,w,K,mg,base,A,N,s₀,H₀,env,outer,stack,ex,fn,calm,pn,xe⟩:=X
 obtain⟨prog',w',K',mg',base',A',N',s₀',H₀',env',outer',stack',ex',fn',calm',pn',xe'⟩:=Y
 dsimp only at e1 e2 e3 e4 e5 e6 e7 e8
 subst e1 e2 e3 e4 e5 e6 e7 e8
 exact⟨ok,I.os,I.bare,I.base,I.loc,I.cell,I.free,I.freeC,fun p z=>I.pin p (hp p z),I.hok,I.len⟩
abbrev Cx.try_ (X:Cx) (pn:List (Addr × Obj)) (xe:Value->Shared->Prop):Cx:={ X with pn:=pn,xe:=xe }
abbrev Cx.suite (X:Cx) (e:Value):Cx:={ X with A:=X.A.mark (some e),calm:=false,xe:=fun _ _=>False }
theorem Cx.Ok.try_ {X:Cx} (ok:X.Ok) (pn:List (Addr × Obj)) (xe:Value->Shared->Prop):(X.try_ pn xe).Ok:=
 ⟨ok.mod,ok.kind,ok.glob,ok.blt,ok.above,ok.inj,ok.has,ok.cab,ok.hd,ok.frames,ok.stk,ok.exf,ok.bs,ok.bsz,ok.noex,ok.exfs,ok.funs,ok.frf⟩
theorem Cx.Ok.suite {X:Cx} (ok:X.Ok) (e:Value):(X.suite e).Ok:=
 ⟨ok.mod,ok.kind,ok.glob,ok.blt,ok.above,ok.inj,ok.has,ok.cab,fun z=>(nomatch z),ok.frames,ok.stk,ok.exf,ok.bs,ok.bsz,ok.noex,ok.exfs,ok.funs,ok.frf⟩
theorem Fly.laid {P:Program} {w:World} {outer:List Env} {H H':Hp} {h h' B:Heap} {ea C:Addr} {a0:Value} (F:Fly P w outer H h ea (.ref C) a0 H' B h'):
  Un (frs outer) [] H (upd H' ea (iQ ea C)) h h'/\HOk P w (upd H' ea (iQ ea C)) h':=by
 have nu:=F.un
 have fe:=F.freeE
 refine⟨⟨nu.keep,nu.slot,fun b o q n hx=>?_,nu.there,fun b xs q=>?_,fun b o u q=>?_,fun b ps q=>?_⟩,fun b u q=>?_⟩
 ·rw [aP (fun z=>by rw [z,F.new] at q;cases q)]
  exact nu.free b o q n hx
 ·have z:=nu.tups b xs q
  rw [aP (aL z fe)]
  exact z
 ·have z:=nu.frzs b o u q
  rw [aP (aL z fe)]
  exact z
 ·obtain⟨m,z⟩:=nu.tbls b ps q
  exact⟨m,by rw [aP (aL z fe)];exact z⟩
 ·by_cases hb:b=ea
  ·subst hb
   rw [aE] at q
   cases q
   obtain⟨o,z,c⟩:=F.fly.there
   exact excO_ok ⟨o,z,c⟩ F.nc
  ·rw [aP hb] at q
   exact(F.hokN b u q).stay (fun _ _ _ z=>z) (fun c z=>by rw [aP (aL z fe)];exact z) fun c xs z=>by rw [aP (aL z fe)];exact z
section
variable {X:Cx}
theorem iL {A:Around} {E:Value->Shared->Prop} {pins:List (Addr × Obj)} {σ:St} {H:Hp} {s:Shared} {i:Nat} {x:Str} {pos:Pos} {Q:Unit->Shared->Prop} (I:Inv X pins σ H s) (hN:X.N.Nodup) (hi:X.N[i]?=some x) (hx:X.env.scope.names.lookup x=some .local)
  (h:∀s',Inv X pins (σ.set i none) H s'->Q () s'):wpAny (model X.prog X.w) A (do bindName X.env x .none;unbindBehindTheSuite X.env x pos) Q E s:=by
 obtain⟨m,hn,hl⟩:=id I.loc
 have hcls:(X.env.scope.kind == .class || (X.env.scope.kind == .module && X.env.locals != X.env.globals))=false:=by rw [I.ok.kind];rfl
 refine wpAny_nameGoes_keeps hx hn hcls fun h' v hn' hs=>?_
 obtain⟨oL,_,_,hoL,_⟩:=id hn
 have neL:∀b o,X.s₀.heap.get? b=some o->b≠X.env.locals:=fun b o q=>Nat.ne_of_lt (Nat.lt_of_lt_of_le (Heap.lt_size q) I.ok.above)
 refine h _ ⟨I.ok,I.os,I.bare,⟨fun b o q n hb he=>(hs.2 b (neL b o q)).trans (I.base.keep b o q n hb he),fun b o q n hb he=>?_,I.base.free,fun b o q he=>?_,I.base.tups,I.base.frzs,I.base.tbls⟩,
  ⟨_,hn',fun j y v' e1 e2 e3=>?_⟩,fun y c q=>?_,I.free,I.freeC,fun p hp=>?_,fun b ob q=>?_,by simpa using I.len⟩
 ·obtain⟨sl,z⟩:=I.base.slot b o q n hb he
  exact⟨sl,(hs.2 b (neL b o q)).trans z⟩
 ·obtain⟨o',z⟩:=I.base.there b o q he
  exact⟨o',(hs.2 b (neL b o q)).trans z⟩
 ·by_cases hj:j=i
  ·subst hj
   have hiσ:j<σ.length:=by rw [I.len];exact(List.getElem?_eq_some_iff.mp hi).1
   rw [List.getElem?_set_self hiσ] at e2
   cases e2
  ·rw [List.getElem?_set_ne (Ne.symm hj)] at e2
   obtain⟨u',r',z⟩:=hl j y v' e1 e2 e3
   refine⟨u',r',?_⟩
   rcases z with ⟨k,z⟩|⟨k,c,z,z2⟩
   ·refine .inl ⟨k,?_⟩
    have ny:y≠x:=fun w=>hj (mQ hN e1 (w ▸ hi))
    show (if y=x then v else m y)=some u'
    rw [if_neg ny]
    exact z
   ·exact .inr ⟨k,c,z,z2.sameBut hs (I.cne y c z)⟩
 ·obtain⟨w',z⟩:=I.cell y c q
  exact⟨w',z.sameBut hs (I.cne y c q)⟩
 ·obtain⟨e,n,ne,nf,d⟩:=I.pin p hp
  exact⟨(hs.2 p.1 ne).trans e,n,ne,nf,d⟩
 ·refine(I.hok b ob q).stay (fun c w' hc r=>(hs.2 c ?_).trans r) (fun _ r=>r) fun _ _ r=>r
  rintro rfl
  rcases hc with rfl|hc
  ·rw [I.free] at q;cases q
  ·rw [I.free] at hc;cases hc
end
abbrev Cx.blk (X:Cx) (NB:List Str) (scope:Scope) (C:Addr) (s:Shared) (H:Hp) (fp:List Addr) (pn:List (Addr × Obj)):Cx:=
 { X with N:=NB,s₀:=s,H₀:=H,env:=compEnv scope C X.env,outer:=X.stack,ex:=fp,fn:=fun _=>false,pn:=pn,xe:=fun _ _=>False }
def PTs (Y:Cx) (ifs:List Expr) (t:TT):Prop:=
 ∀ ⦃pins:List (Addr × Obj)⦄ (s:Shared) (σ:St) (H:Hp) (Q:Bool->Hp->Prop),Inv Y pins σ H s->t σ H Q ->
  wpAny (model Y.prog Y.w) Y.A (forIn ifs true fun c r=>if r=true then do let ok <- isTrue c Y.env (eval c Y.env);pure (ForInStep.yield ok) else pure (ForInStep.yield r)) (TP Y pins σ Q) Y.xe s
def tYes:TT:=fun _ H Q=>Q true H
theorem dF {Y:Cx}:PTs Y [] tYes:=fun _ _ _ H _ I h=>wpAny_tests_nil ⟨H,I,h⟩
theorem pts_one {Y:Cx} {c:Expr} {t:TT} (h:PT Y c t):PTs Y [c] t:=fun pins s σ H Q I hq=>wpAny_tests_one (h s σ H Q I hq)
def tComp (nB:Nat) (wi:TI) (g:TG) (tc:TT) (te:TE):TE:=fun σ H Q=>wi σ H fun J H1=>∀acc,H1 acc=none ->
 ∃W:Nat->Nat->List V->Hp->Prop,(∃m,W 0 m [] (upd H1 acc (.lst [])))/\∀i m ys H,W i m ys H->H acc=some (.lst ys) /\
  ((J.stop i H/\Q (.ref acc) H)\/(J.go i H/\∀x H',J.yld i H x H'->g x (List.replicate nB none) H' fun σ2 H2=>tc σ2 H2 fun b H3=>
   if b=true then te σ2 H3 fun y H4=>H4 acc=some (.lst ys)/\ys.length<sizeLine/\∃m',m'<m/\W (i+1) m' (ys++[y]) (upd H4 acc (.lst (ys++[y])))
   else ∃m',m'<m/\W (i+1) m' ys H3))
section
variable {X:Cx} {NB:List Str} {scope:Scope}
theorem blk_inv {pins:List (Addr × Obj)} {σ:St} {H:Hp} {s:Shared} {h4:Heap} {tk:Nat} {fp:List Addr} (I:Inv X pins σ H s) (hk:scope.kind=.function) (hfree:∀x ∈ scope.names,x.2≠.free) (hcell:∀x ∈ scope.names,x.2≠.cell)
  (hf:∀b ∈ fp,gF X pins H b) (ho:∀b ∈ fp,b<s.heap.objs.size) {m:Str->Option Value} (hn:h4.Ns s.heap.objs.size m) (keep:∀b o,s.heap.get? b=some o->h4.get? b=some o):
  Inv (X.blk NB scope s.heap.objs.size s H fp (X.pn++pins)) [] (List.replicate NB.length none) H { s with heap:=h4,toks:=tk }:=by
 have stk:∀b,b≠X.env.locals->b ∉ X.fs->b ∉ frs X.stack:=fun b h1 h2 z=>(List.mem_cons.mp (I.stkSub b z)).elim h1 h2
 have nok:∀x k,scope.names.lookup x=some k->k≠.cell/\k≠.free:=fun x k q=>⟨hcell (x,k) (PySem.mem_of_lookup q),hfree (x,k) (PySem.mem_of_lookup q)⟩
 refine⟨⟨I.ok.mod,hk,I.ok.glob,I.ok.blt,Nat.le_refl _,fun x y c q=>(nomatch q),fun x q=>?_,fun x c q=>(nomatch q),I.ok.hd,I.ok.frames,.inl rfl,fun b hb=>⟨Nat.ne_of_lt (ho b hb),fun x c q=>(nomatch q)⟩,I.bs,Nat.le_trans I.ok.bsz I.sz,
  fun b o q hb=>?_,fun b hb=>stk b (hf b hb).2.1 (hf b hb).2.2.1,I.stack,I.stkFree⟩,rfl,I.bare,Un.kept keep,⟨m,hn,fun i x v q1 q2=>?_⟩,fun x c q=>(nomatch q),I.hok.fresh (Nat.le_refl _),fun x c q=>(nomatch q),fun p hp=>?_,I.hok.kept keep,?_⟩
 ·rcases q with q|q
  ·exact absurd rfl (nok x _ q).1
  ·exact absurd rfl (nok x _ q).2
 ·rcases (hf b hb).2.2.2.1 with z|z
  ·exact I.ok.noex b o q z
  ·exact absurd (Nat.lt_of_lt_of_le (Heap.lt_size q) (Nat.le_trans I.ok.bsz z)) (Nat.lt_irrefl _)
 ·rw [List.getElem?_replicate] at q2
  split at q2 <;> cases q2
 ·have hp':p ∈ X.pn++pins:=by simpa using hp
  obtain⟨q,n,ne,nf,d⟩:=I.pin p hp'
  exact⟨keep _ _ q,n,Nat.ne_of_lt (Heap.lt_size q),stk _ ne nf,d⟩
 ·rw [List.length_replicate]
theorem AaY {pins:List (Addr × Obj)} {σ σ':St} {H H':Hp} {s s':Shared} {h2:Heap} {fp:List Addr} {pl:List (Addr × Obj)} (I:Inv X pins σ H s) (hf:∀b ∈ fp,gF X pins H b) (ho:∀b ∈ fp,b<s.heap.objs.size)
  (J:Inv (X.blk NB scope s.heap.objs.size s H fp (X.pn++pins)) pl σ' H' s') (hs:Heap.SameBut s.heap.objs.size s'.heap h2):Inv X pins σ H' { s' with heap:=h2 }:=by
 have u:=J.base
 have low:∀b o,s.heap.get? b=some o->b≠s.heap.objs.size:=fun b o q=>Nat.ne_of_lt (Heap.lt_size q)
 refine I.call' (s':={ s' with heap:=h2 }) (ch:=fp) J.os ⟨fun b o q n hb he=>(hs.2 b (low b o q)).trans (u.keep b o q n hb he),fun b o q n hb he=>?_,u.free,fun b o q he=>?_,u.tups,u.frzs,u.tbls⟩ (fun b o q=>?_) J.bare fun b hb=>?_
 ·obtain⟨sl,z⟩:=u.slot b o q n hb he
  exact⟨sl,(hs.2 b (low b o q)).trans z⟩
 ·obtain⟨o',z⟩:=u.there b o q he
  exact⟨o',(hs.2 b (low b o q)).trans z⟩
 ·refine(J.hok b o q).stay (fun c w' hc r=>(hs.2 c ?_).trans r) (fun _ r=>r) fun _ _ r=>r
  have fr:H' s.heap.objs.size=none:=J.free
  rintro rfl
  rcases hc with rfl|hc
  ·rw [fr] at q;cases q
  ·rw [fr] at hc;cases hc
 ·obtain⟨f0,f1,f2,f3,f4,f5⟩:=hf b hb
  exact⟨f3,f1,f4,f5⟩
theorem lG {elt tg iter:Expr} {ifs:List Expr} {pos:Pos} {wi:TI} {g:TG} {tc:TT} {te:TE} (hk:scope.kind=.function) (hfree:∀x ∈ scope.names,x.2≠.free) (hcell:∀x ∈ scope.names,x.2≠.cell)
  (hnames:∀x ∈ scope.names,x.2=.local->scope.names.lookup x.1=some .local) (_:(0:Nat)=0) (hi:PI X tg iter wi)
  (hg:∀C s H fp pn,PG (X.blk NB scope C s H fp pn) tg g) (ht:∀C s H fp pn,PTs (X.blk NB scope C s H fp pn) ifs tc) (he:∀C s H fp pn,PE (X.blk NB scope C s H fp pn) elt te)
  (hs:∀x,foldedSetIterable iter X.env x=pure x:=by intro _;rfl):PE X (.ListComp elt [⟨tg,iter,ifs,0⟩] scope pos) (tComp NB.length wi g tc te):=by
 intro pins s σ H Q I h
 refine wpAny_ListComp hfree hk hnames (thn (hi s σ H _ I h) fun v s1 h1=>thn h1 fun itv s2 h2=>?_) hs
 obtain⟨it,fp,tn,J,H2,rfl,I2,T,st2,f2,h2⟩:=h2
 have lt2:∀b ∈ fp,b<s2.heap.objs.size:=fun b hb=>by
  obtain⟨o,q,_⟩:=T.obj 0 _ st2 b hb
  exact Heap.lt_size q
 refine wpAny_newObj_type ?_
 have hz:H2 s2.heap.objs.size=none:=I2.hok.fresh (Nat.le_refl _)
 obtain⟨W,⟨m0,w0⟩,turn⟩:=h2 s2.heap.objs.size hz
 have I3:Inv X pins σ (upd H2 s2.heap.objs.size (.lst [])) { s2 with heap:=s2.heap.push { cls:=.type "list",dict:=none,data:=.seq ([]:List Value).toArray } }:=
  I2.laid (t':=s2.toks) (fun b o q=>Heap.get?_push_of_some _ q) (Nat.le_refl _) ⟨Nat.zero_le _,[],0,.nil,Heap.get?_push_size _ rfl⟩
 generalize hs3:({ s2 with heap:=s2.heap.push { cls:=.type "list",dict:=none,data:=.seq ([]:List Value).toArray } }:Shared)=s3 at I3 ⊢
 have ups3:∀b o,s2.heap.get? b=some o->s3.heap.get? b=some o:=fun b o q=>by rw [<- hs3];exact Heap.get?_push_of_some _ q
 have f3:∀b ∈ fp,gF X pins (upd H2 s2.heap.objs.size (.lst [])) b:=fun b hb=>⟨by rw [aP (Nat.ne_of_lt (lt2 b hb))];exact(f2 b hb).1,(f2 b hb).2⟩
 have lt3:∀b ∈ fp,b<s3.heap.objs.size:=fun b hb=>by
  obtain⟨o,q,_⟩:=T.obj 0 _ st2 b hb
  exact Heap.lt_size (ups3 b o q)
 refine wpAny_newFunctionEnv hcell (by intro y hy;simp at hy) (fun h4 hn4 hs4=>?_) hk
 have keep4:∀b o,s3.heap.get? b=some o->h4.get? b=some o:=fun b o q=>(hs4.2 b (Nat.ne_of_lt (Heap.lt_size q))).trans (Heap.get?_push_of_some _ q)
 have I4:=blk_inv (NB:=NB) (tk:=s3.toks+([]:List (Str × Value)).length) I3 hk hfree hcell f3 lt3 hn4 keep4
 have st4:tn 0 h4:=T.keep _ _ _ st2 fun b hb o q=>keep4 b o (ups3 b o q)
 have fpY:∀{H':Hp},(∀b ∈ fp,H' b=none)->∀b ∈ fp,gF (X.blk NB scope s3.heap.objs.size s3 (upd H2 s2.heap.objs.size (.lst [])) fp (X.pn++pins)) [] H' b:=fun hn b hb=>by
  obtain⟨g0,g1,g2,g3,g4,g5⟩:=f3 b hb
  exact⟨hn b hb,Nat.ne_of_lt (lt3 b hb),fun z=>(List.mem_cons.mp (I3.stkSub b z)).elim g1 g2,.inl hb,fun x c q=>(nomatch q),fun p hp=>g5 p (by simpa using hp)⟩
 have loop:∀s5:Shared,s5={ s3 with heap:=h4,toks:=s3.toks+([]:List (Str × Value)).length }->codeAny (model X.prog X.w) X.A (.compLoop (.ListComp elt [⟨tg,iter,ifs,0⟩] scope pos) 0 (.ref it) (.ref s2.heap.objs.size) (compEnv scope s3.heap.objs.size X.env))
   (fun r s'=>∃m,s'.heap.Ns s3.heap.objs.size m/\∀h',Heap.SameBut s3.heap.objs.size s'.heap h'->match r with
    | .ok _=>EP X pins σ Q (.ref s2.heap.objs.size) { s' with heap:=h' }
    | .error x=>wpAny (model X.prog X.w) X.A (passOn "comprehension.variables-let-go" x (compEnv scope s3.heap.objs.size X.env)) (EP X pins σ Q) X.xe { s' with heap:=h' }) s5:=by
  rintro s5 rfl
  refine codeAny_loop rfl (fun n s'=>∃i ys H',Inv (X.blk NB scope s3.heap.objs.size s3 (upd H2 s2.heap.objs.size (.lst [])) fp (X.pn++pins)) [] (List.replicate NB.length none) H' s'/\tn i s'.heap/\(∀b ∈ fp,H' b=none)/\W i n ys H')
   (fun n s6 hI=>?_) m0 ⟨0,[],_,I4,st4,fun b hb=>(f3 b hb).1,w0⟩
  obtain⟨i,ys,H6,I6,st6,fr6,w6⟩:=hI
  show wpAny _ _ ((compTurn (.ListComp elt [⟨tg,iter,ifs,0⟩] scope pos) 0 (.ref it) (.ref s2.heap.objs.size) (compEnv scope s3.heap.objs.size X.env)).onRaise (fun x=>do noteFrame x (compEnv scope s3.heap.objs.size X.env);theTreesLotGoes x)) _ _ s6
  refine wpAny_noted ?_
  rw [compTurn_list]
  refine wpAny_bind (wpAny_standAt (wpAny_bind ?_))
  obtain⟨hacc,alt⟩:=turn i n ys H6 w6
  rcases alt with ⟨stop,q⟩|⟨go,step⟩
  ·refine thn (T.done (X.blk NB scope s3.heap.objs.size s3 (upd H2 s2.heap.objs.size (.lst [])) fp (X.pn++pins)) rfl rfl rfl rfl i [] s6 _ H6 _ I6 (fpY fr6) st6 stop) fun r s7 ⟨hr,I7⟩=>?_
   subst hr
   obtain⟨m,hm,_⟩:=I7.loc
   exact wpAny_pure ⟨m,hm,fun h' hsb=>⟨.ref s2.heap.objs.size,H6,AaY I3 f3 lt3 I7 hsb,rfl,q⟩⟩
  ·refine thn (T.item (X.blk NB scope s3.heap.objs.size s3 (upd H2 s2.heap.objs.size (.lst [])) fp (X.pn++pins)) rfl rfl rfl rfl i [] s6 _ H6 _ I6 (fpY fr6) st6 go) fun r s7 ⟨u,hr,h7⟩=>?_
   subst hr
   refine wpAny_bind (thn h7 fun _ s8 ⟨x,H8,I8,r8,y8,st8,fr8⟩=>?_)
   have I8':=I8.pinned (fpY fr8) (T.obj _ _ st8)
   have gp:∀{σ9:St} {H9:Hp} {s9:Shared},Inv (X.blk NB scope s3.heap.objs.size s3 (upd H2 s2.heap.objs.size (.lst [])) fp (X.pn++pins)) ([]++dO fp s8.heap) σ9 H9 s9->tn (i+1) s9.heap/\∀b ∈ fp,H9 b=none:=fun I9=>
    ⟨T.keep _ _ _ st8 fun b hb o e=>(I9.pin (b,o) (List.mem_append_right _ (List.mem_append_right _ (cX hb e)))).1,fun b hb=>by
     obtain⟨o,e,d⟩:=T.obj _ _ st8 b hb
     exact(I9.pin (b,o) (List.mem_append_right _ (List.mem_append_right _ (cX hb e)))).2.1⟩
   have wk:∀{σ9:St} {H9:Hp} {s9:Shared},Inv (X.blk NB scope s3.heap.objs.size s3 (upd H2 s2.heap.objs.size (.lst [])) fp (X.pn++pins)) ([]++dO fp s8.heap) σ9 H9 s9->Inv (X.blk NB scope s3.heap.objs.size s3 (upd H2 s2.heap.objs.size (.lst [])) fp (X.pn++pins)) [] (List.replicate NB.length none) H9 s9:=fun I9=>
    I9.unpinned.weak (by rw [List.length_replicate,I9.len]) fun k v z=>by
     rw [List.getElem?_replicate] at z
     split at z <;> cases z
   refine wpAny_bind (wpAny_mono (hg _ _ _ _ _ s8 _ H8 x u _ I8' r8 (step x H8 y8)) (fun _ s9 hq=>?_) fun _ _ z=>z.elim)
   obtain⟨σ9,H9,I9,q9⟩:=hq
   refine wpAny_bind (wpAny_mono (ht _ _ _ _ _ s9 σ9 H9 _ I9 q9) (fun ok s10 hq=>?_) fun _ _ z=>z.elim)
   obtain⟨H10,I10,q10⟩:=hq
   cases ok with
   | false=>
    rw [if_neg (by simp)] at q10
    obtain⟨m',hm',w10⟩:=q10
    exact wpAny_pure ⟨rfl,m',hm',i+1,ys,H10,wk I10,(gp I10).1,(gp I10).2,w10⟩
   | true=>
    rw [if_pos rfl] at q10
    refine wpAny_bind (wpAny_bind (wpAny_mono (he _ _ _ _ _ s10 σ9 H10 _ I10 q10) (fun y s11 hq=>?_) fun _ _ z=>z.elim))
    obtain⟨yv,H11,I11,ry,ha11,hl11,m',hm',w11⟩:=hq
    have mt:=gK (X:=X.blk NB scope s3.heap.objs.size s3 (upd H2 s2.heap.objs.size (.lst [])) fp (X.pn++pins)) ([]++dO fp s8.heap) s11 σ9 H11 (.ref s2.heap.objs.size) [yv] (.ref s2.heap.objs.size) [y] (fun _ H'=>W (i+1) m' (ys++[yv]) H') I11 rfl (.cons ry .nil) ⟨_,ys,yv,rfl,rfl,ha11,hl11,w11⟩
    refine wpAny_bind (wpAny_mono mt (fun _ s12 hq=>?_) fun _ _ z=>z.elim)
    obtain⟨v12,H12,I12,_,w12⟩:=hq
    exact wpAny_pure (wpAny_pure ⟨rfl,m',hm',i+1,_,H12,wk I12,(gp I12).1,(gp I12).2,w12⟩)
 exact codeAny_compStart_list (loop _ rfl) (T.self _ 0 _ _ _ st4 (loop _ rfl))
end
mutual
inductive RdV (K:PySem.W.Frag) (H:Hp):V->PyData->Prop where
 | non:RdV K H .non .none
 | bl (b:Bool):RdV K H (.bl b) (.bool b)
 | int (i:Int):RdV K H (.int i) (.int i)
 | str (x:Str):RdV K H (.str x) (.str x)
 | lst {a:Addr} {xs:List V} {ds:List PyData}:SqL K H a xs->jF K H xs ds->RdV K H (.ref a) (.list ds)
 | tup {a:Addr} {xs:List V} {ds:List PyData}:SqT K H a xs->jF K H xs ds->RdV K H (.ref a) (.tuple ds)
inductive jF (K:PySem.W.Frag) (H:Hp):List V->List PyData->Prop where
 | nil:jF K H [] []
 | cons {x:V} {d:PyData} {xs:List V} {ds:List PyData}:RdV K H x d->jF K H xs ds->jF K H (x::xs) (d::ds)
end
section
variable {X:Cx} {pins:List (Addr × Obj)} {σ:St} {H:Hp} {s:Shared}
mutual
theorem RdV.reads (I:Inv X pins σ H s):∀{x:V} {d:PyData} {u:Value},RdV X.K H x d->cJ x u->∃as,Reads s.heap u d as
 | _,_,_,.non,r=>by cases (show _=Value.none from r);exact⟨_,.none⟩
 | _,_,_,.bl b,r=>by cases (show _=Value.bool b from r);exact⟨_,.bool b⟩
 | _,_,_,.int i,r=>by obtain⟨t,q⟩:=(show ∃t,_=Value.int i t from r);cases q;exact⟨_,.int i t⟩
 | _,_,_,.str x,r=>by obtain⟨t,q⟩:=(show ∃t,_=Value.str x t from r);cases q;exact⟨_,.str x t⟩
 | _,_,_,@RdV.lst _ _ a xs ds hq hs,r=>by
  cases (show _=Value.ref a from r)
  obtain⟨its,rv,p,_⟩:=I.list hq
  obtain⟨as,ra⟩:=jF.reads I hs rv
  obtain⟨o,ho,hc,n,hd⟩:=p.isList
  exact⟨_,.list ho hc hd (by simpa using ra)⟩
 | _,_,_,@RdV.tup _ _ a xs ds hq hs,r=>by
  cases (show _=Value.ref a from r)
  obtain⟨its,rv,p,_⟩:=I.tuple hq
  obtain⟨as,ra⟩:=jF.reads I hs rv
  obtain⟨o,ho,hc,n,hd⟩:=(show s.heap.IsTuple a its.toArray from p)
  exact⟨_,.tuple ho hc hd (by simpa using ra)⟩
theorem jF.reads (I:Inv X pins σ H s):∀{xs:List V} {ds:List PyData} {us:List Value},jF X.K H xs ds->bY xs us->∃as,ReadsAll s.heap us ds as
 | _,_,_,.nil,.nil=>⟨_,.nil⟩
 | _,_,_,.cons h hs,.cons r rs=>by
  obtain⟨as,ra⟩:=RdV.reads I h r
  obtain⟨bs,rb⟩:=jF.reads I hs rs
  exact⟨_,.cons ra rb⟩
end
end
section
variable {X:Cx}
def rEqD (K:PySem.W.Frag):R2:=fun x y H Q=>∃dx dy,RdV K H x dx/\RdV K H y dy/\SeqAt.shaped dx=true/\SeqAt.shaped dy=true/\Q (.bl (PyData.eqv dx dy)) H
def rNeD (K:PySem.W.Frag):R2:=fun x y H Q=>∃dx dy,RdV K H x dx/\RdV K H y dy/\SeqAt.shaped dx=true/\SeqAt.shaped dy=true/\Q (.bl (!PyData.eqv dx dy)) H
theorem zE (hu:X.A.units+64<cLine):OpR X (compareOp .Eq) (rEqD X.K):=by
 intro pins s σ H x y v u Q I rx ry h
 obtain⟨dx,dy,hx,hy,sx,sy,q⟩:=h
 obtain⟨as,ra⟩:=hx.reads I rx
 obtain⟨bs,rb⟩:=hy.reads I ry
 exact SeqAt.compareEq_shaped ra rb sx sy hu ⟨.bl _,H,I,rfl,q⟩
theorem uW (hu:X.A.units+64<cLine):OpR X (compareOp .NotEq) (rNeD X.K):=by
 intro pins s σ H x y v u Q I rx ry h
 obtain⟨dx,dy,hx,hy,sx,sy,q⟩:=h
 obtain⟨as,ra⟩:=hx.reads I rx
 obtain⟨bs,rb⟩:=hy.reads I ry
 exact SeqAt.compareNe_shaped ra rb sx sy hu ⟨.bl _,H,I,rfl,q⟩
end
end L2
namespace PySem.SeqAt
open AutoSeq1 (wpAny_loadPart')
open MeetsSeq MeetsSeq2 MeetsSeq3
section
variable {A:Around} {s:Shared}
end
end PySem.SeqAt
namespace L2
open PySem PySem.Spec PyProof.Rows
section
variable {X:Cx}
end
section
variable {κ:Type} [DecidableEq κ]
def fO (kvs:List (κ × V)) (k:κ):Option V:=(kvs.find? fun kv=>decide (kv.1=k)).map (·.2)
def jA (kvs:List (κ × V)) (k:κ) (v:V):List (κ × V):=
 if (kvs.any fun kv=>decide (kv.1=k))=true then kvs.map (fun kv=>if kv.1=k then(kv.1,v) else kv) else kvs++[(k,v)]
theorem yF {k:κ}:fO ([]:List (κ × V)) k=none:=rfl
theorem dI {p:κ × V} {r:List (κ × V)} {k:κ} (e:p.1=k):fO (p::r) k=some p.2:=by simp [fO,List.find?_cons,e]
theorem dJ {p:κ × V} {r:List (κ × V)} {k:κ} (e:¬ p.1=k):fO (p::r) k=fO r k:=by simp [fO,List.find?_cons,e]
theorem lO (k:κ):∀kvs:List (κ × V),(kvs.any fun kv=>decide (kv.1=k))=(fO kvs k).isSome
 | []=>rfl
 | p::r=>by
  rw [List.any_cons]
  by_cases e:p.1=k
  ·simp only [dI e,decide_eq_true e,Bool.true_or,Option.isSome_some]
  ·rw [dJ e,decide_eq_false e,Bool.false_or];exact lO k r
theorem rF (k j:κ) (y:V):∀kvs:List (κ × V),fO (kvs.map fun kv=>if kv.1=k then(kv.1,y) else kv) j=(fO kvs j).map fun x=>if j=k then y else x
 | []=>rfl
 | p::r=>by
  have ih:=rF k j y r
  rw [List.map_cons]
  by_cases h:p.1=k
  ·rw [if_pos h]
   by_cases e:p.1=j
   ·rw [dI (p:=(p.1,y)) e,dI e,Option.map_some,if_pos (e.symm.trans h)]
   ·rw [dJ (p:=(p.1,y)) e,dJ e,ih]
  ·rw [if_neg h]
   by_cases e:p.1=j
   ·rw [dI (p:=p) e,dI e,Option.map_some,if_neg (fun z=>h (e.trans z))]
   ·rw [dJ (p:=p) e,dJ e,ih]
theorem nW (k j:κ) (y:V):∀kvs:List (κ × V),fO kvs k=none->fO (kvs++[(k,y)]) j=if j=k then some y else fO kvs j
 | [],_=>by
  by_cases e:k=j
  ·rw [if_pos e.symm];exact dI (p:=(k,y)) e
  ·rw [if_neg (fun z=>e z.symm)];exact dJ (p:=(k,y)) e
 | p::r,hn=>by
  rw [List.cons_append]
  have hk:¬ p.1=k:=fun z=>by rw [dI z] at hn;cases hn
  rw [dJ hk] at hn
  have ih:=nW k j y r hn
  by_cases e:p.1=j
  ·rw [dI e,dI e,if_neg (fun z=>hk (e.trans z))]
  ·rw [dJ e,dJ e,ih]
theorem gZ (kvs:List (κ × V)) (k j:κ) (y:V):fO (jA kvs k y) j=if j=k then some y else fO kvs j:=by
 unfold jA
 by_cases a:(kvs.any fun kv=>decide (kv.1=k))=true
 ·rw [if_pos a,rF]
  rw [lO] at a
  by_cases e:j=k
  ·obtain⟨x,hx⟩:=Option.isSome_iff_exists.mp a
   rw [if_pos e,e,hx,Option.map_some,if_pos rfl]
  ·rw [if_neg e]
   cases fO kvs j with
   | none=>rfl
   | some x=>rw [Option.map_some,if_neg e]
 ·rw [if_neg a]
  refine nW k j y kvs ?_
  rw [lO] at a
  cases q:fO kvs k with
  | none=>rfl
  | some x=>rw [q] at a;exact(a rfl).elim
theorem sR (kvs:List (κ × V)) (k:κ) (v:V):(jA kvs k v).length<=kvs.length+1:=by
 unfold jA
 split
 ·rw [List.length_map];omega
 ·rw [List.length_append,List.length_cons,List.length_nil];omega
theorem RelO.getD {o:Option V} {u:Option Value} {d:V} {d':Value} (r:RelO o u) (rd:cJ d d'):cJ (o.getD d) (u.getD d'):=by
 cases o with
 | none=>cases u with
  | none=>exact rd
  | some _=>exact(show False from r).elim
 | some _=>cases u with
  | none=>exact(show False from r).elim
  | some _=>exact r
theorem KV.val {kvs:List (κ × V)} {vs:List (κ × Value)} (r:KV kvs vs) (k:κ):RelO (fO kvs k) (valueAt vs k):=by
 unfold KV at r
 induction r with
 | nil=>exact True.intro
 | @cons p q ps qs h t ih=>
  obtain⟨h1,h2⟩:=h
  by_cases e:p.1=k
  ·have e':q.1=k:=h1.symm.trans e
   have b:valueAt (q::qs) k=some q.2:=by simp [valueAt,List.find?_cons,e']
   rw [dI e,b];exact h2
  ·have e':¬ q.1=k:=fun z=>e (h1.trans z)
   have b:valueAt (q::qs) k=valueAt qs k:=by simp [valueAt,List.find?_cons,e']
   rw [dJ e,b];exact ih
theorem KV.any {kvs:List (κ × V)} {vs:List (κ × Value)} (r:KV kvs vs) (k:κ):(kvs.any fun kv=>decide (kv.1=k))=vs.any fun kv=>decide (kv.1=k):=by
 unfold KV at r
 induction r with
 | nil=>rfl
 | cons h t ih=>rw [List.any_cons,List.any_cons,ih,h.1]
theorem KV.repl {kvs:List (κ × V)} {vs:List (κ × Value)} (r:KV kvs vs) (k:κ) {y:V} {u:Value} (ry:cJ y u):
  KV (kvs.map fun kv=>if kv.1=k then(kv.1,y) else kv) (vs.map fun kv=>if kv.1=k then(kv.1,u) else kv):=by
 unfold KV at r ⊢
 induction r with
 | nil=>exact .nil
 | @cons p q ps qs h t ih=>
  rw [List.map_cons,List.map_cons]
  refine .cons ?_ ih
  obtain⟨h1,h2⟩:=h
  by_cases e:p.1=k
  ·rw [if_pos e,if_pos (h1.symm.trans e)];exact⟨h1,ry⟩
  ·rw [if_neg e,if_neg (fun z=>e (h1.trans z))];exact⟨h1,h2⟩
theorem KV.put {kvs:List (κ × V)} {vs:List (κ × Value)} (r:KV kvs vs) (k:κ) {y:V} {u:Value} (ry:cJ y u):KV (jA kvs k y) (stored vs k u):=by
 unfold jA stored
 rw [r.any k]
 by_cases e:(vs.any fun kv=>decide (kv.1=k))=true
 ·rw [if_pos e,if_pos e];exact r.repl k ry
 ·rw [if_neg e,if_neg e];exact Paired.snoc r ⟨rfl,ry⟩
end
theorem kV_is {P:Program} {w:World} {k:Key} {u:Value} (r:cJ (kV k) u):(cV P w).is k u=true:=by
 cases k with
 | inl i=>obtain⟨t,e⟩:=(show ∃t,u=Value.int i t from r);subst e;exact sQ P w i t
 | inr x=>obtain⟨t,e⟩:=(show ∃t,u=Value.str x t from r);subst e;exact sP P w x t
theorem oU {P:Program} {w:World}:∀{ks:List Key} {us:List Value},bY (ks.map kV) us->ItemsAre (cV P w) ks us
 | [],_,r=>by rw [List.map_nil] at r;cases r;exact .nil
 | k::ks,_,r=>by
  rw [List.map_cons] at r
  cases r with
  | cons h t=>exact .cons (kV_is h) (oU t)
abbrev KT (H:Hp):List (List Key × V)->List (List Key × Addr × Value)->Prop:=Paired fun p q=>p.1=q.1/\H q.2.1=some (.tup (p.1.map kV))/\cJ p.2 q.2.2
theorem KT.val {H:Hp} {kvs:List (List Key × V)} {xs:List (List Key × Addr × Value)} (r:KT H kvs xs) (k:List Key):RelO (fO kvs k) ((atKey xs k).map (·.2)):=by
 induction r with
 | nil=>exact True.intro
 | @cons p q ps qs h t ih=>
  obtain⟨h1,_,h2⟩:=h
  by_cases e:p.1=k
  ·have e':q.1=k:=h1.symm.trans e
   have b:atKey (q::qs) k=some q.2:=by simp [atKey,List.find?_cons,e']
   rw [dI e,b];exact h2
  ·have e':¬ q.1=k:=fun z=>e (h1.trans z)
   have b:atKey (q::qs) k=atKey qs k:=by simp [atKey,List.find?_cons,e']
   rw [dJ e,b];exact ih
section
variable {P:Program} {w:World} {H:Hp} {h:Heap} {a:Addr}
theorem rd_of {u:HO} (ok:HOk P w H h) (e:Rd H a u):cP P w H h a u:=e.ok ok
theorem dk_rd {kvs:List (Key × V)} (ok:HOk P w H h) (e:Rd H a (.dK kvs)):kvs.length<=sizeLine/\(a == sysModules)=false/\∃vs,KV kvs vs/\h.DictOf (cV P w) a vs:=
 show cP P w H h a (.dK kvs) from rd_of ok e
theorem dk_of {kvs:List (Key × V)} (ok:HOk P w H h) (e:H a=some (.dK kvs)):kvs.length<=sizeLine/\(a == sysModules)=false/\∃vs,KV kvs vs/\h.DictOf (cV P w) a vs:=dk_rd ok (.inl e)
theorem AaE {ks:List Key} (ok:HOk P w H h) (e:H a=some (.tup (ks.map kV))):(tupleKind (cV P w)).is h ks a:=by
 obtain⟨_,its,r,o,h1,h2,n,h3⟩:=(show cP P w H h a (.tup (ks.map kV)) from ok a _ e)
 exact⟨o,its.toArray,n,h1,h2,h3,by simpa using oU r⟩
theorem dt_rd {kvs:List (List Key × V)} (ok:HOk P w H h) (e:Rd H a (.dT kvs)):kvs.length<=sizeLine/\(a == sysModules)=false /\
  ∃xs,KT H kvs xs/\h.DictOfH (tupleKind (cV P w)) a xs:=by
 obtain⟨z,y,xs,r,o,es,ep,h1,h2,h3,h4,h5⟩:=(show cP P w H h a (.dT kvs) from rd_of ok e)
 refine⟨z,y,xs,r,o,es,ep,h1,h2,h3,h4,fun x hx=>?_,h5⟩
 have all:∀{l:List (List Key × V)} {m:List (List Key × Addr × Value)},KT H l m->∀x ∈ m,(tupleKind (cV P w)).is h x.1 x.2.1:=by
  intro l m q
  induction q with
  | nil=>intro x hx;exact nomatch hx
  | @cons p q ps qs hq t ih=>
   intro x hx
   rcases List.mem_cons.mp hx with e|hx
   ·subst e
    exact AaE ok (by rw [<- hq.1];exact hq.2.1)
   ·exact ih x hx
 exact all r x hx
end
def DGet (H:Hp) (a:Addr) (y:V) (r:Option V):Prop:=
 (∃kvs k,Rd H a (.dK kvs)/\y=kV k/\r=fO kvs k)\/∃kvs k b,Rd H a (.dT kvs)/\y=.ref b/\H b=some (.tup (k.map kV))/\r=fO kvs k
section
variable {X:Cx} {pins:List (Addr × Obj)} {σ:St} {H:Hp} {s:Shared} {a:Addr} {y v:V} {u r:Value} {o:Option V} {A:Around} {E:Value->Shared->Prop}
theorem Inv.big (I:Inv X pins σ H s):sysModules<s.heap.objs.size:=by
 have h:mainGlobals<s.heap.objs.size:=(I.mod.glob.keeps I.bk).lt
 exact Nat.lt_trans (by decide) h
theorem d_write {h':Heap} {t':Nat} {ob:HO} (I:Inv X pins σ H s) (mu:Mut (H a)) (hs:Heap.SameBut a s.heap h') (he:∃q,h'.get? a=some q) (new:cP X.prog X.w (upd H a ob) h' a ob):
  Inv X pins σ (upd H a ob) { s with heap:=h',toks:=t' }:=
 I.write (x:=a) (e:=a) mu (.inl rfl) (fun b q hb z=>(hs.2 b hb).trans z) he new
theorem dk_new {P:Program} {w:World} {H':Hp} {h':Heap} {kvs:List (Key × V)} {vs:List (Key × Value)} (z:kvs.length<=sizeLine) (hd:(a == sysModules)=false) (rel:KV kvs vs) (dd:h'.DictOf (cV P w) a vs):
  cP P w H' h' a (.dK kvs):=⟨z,hd,vs,rel,dd⟩
end
section
variable {X:Cx} {pins:List (Addr × Obj)} {σ:St} {H:Hp} {s:Shared} {a:Addr} {kvs:List (Key × V)} {k:Key} {u:Value} {A:Around} {E:Value->Shared->Prop}
end
section
variable {X:Cx} {o i e value:Expr} {pos pos' tpos:Pos} {td ty tv:TE}
end
theorem AaR {P:Program} {w:World} {H:Hp} (h:Heap) (hb:sysModules<h.objs.size):cP P w H (h.push { cls:=.type "dict",data:=.dict #[] }) h.objs.size (.dK []):=
 ⟨Nat.zero_le _,beq_eq_false_iff_ne.mpr (Ne.symm (Nat.ne_of_lt hb)),[],.nil,Heap.DictOf.new h⟩
section
variable {X:Cx} {pos:Pos}
end
def tU:List (TE × TE)->St->Hp->(List (V × V)->Hp->Prop)->Prop
 | [],_,H,Q=>Q [] H
 | (tk,tv)::r,σ,H,Q=>tk σ H fun x H1=>tv σ H1 fun y H2=>tU r σ H2 fun ps H3=>Q ((x,y)::ps) H3
abbrev VV:List (V × V)->List (Value × Value)->Prop:=Paired fun p q=>cJ p.1 q.1/\cJ p.2 q.2
def PPs (X:Cx) (pos:Pos) (keys:List (Option Expr)) (values:List Expr) (trs:List (TE × TE)):Prop:=
 ∀(pins:List (Addr × Obj)) (s:Shared) (σ:St) (H:Hp) (Q:List (V × V)->Hp->Prop),Inv X pins σ H s->tU trs σ H Q ->
  wpAny (model X.prog X.w) X.A (evalPairs (pairTrees keys values X.env pos)) (fun vs s'=>∃ps H',Inv X pins σ H' s'/\VV ps vs/\Q ps H') X.xe s
theorem pps_nil {X:Cx} {pos:Pos}:PPs X pos [] [] []:=fun pins s σ H Q I h=>pairTrees_nil_walk ⟨[],H,I,.nil,h⟩
theorem hX {X:Cx} {pos:Pos} {k v:Expr} {ks:List (Option Expr)} {vs:List Expr} {tk tv:TE} {trs:List (TE × TE)} (hk:PE X k tk) (hv:PE X v tv) (hr:PPs X pos ks vs trs):
  PPs X pos (some k::ks) (v::vs) ((tk,tv)::trs):=fun pins s σ H Q I h=>
 pairTrees_cons_walk (thn (hk s σ H _ I h) fun u s1 ⟨x,H1,I1,rx,q1⟩=>thn (hv s1 σ H1 _ I1 q1) fun w2 s2 ⟨y,H2,I2,ry,q2⟩=>
  thn (hr pins s2 σ H2 _ I2 q2) fun ws s3 ⟨ps,H3,I3,rel,q3⟩=>⟨(x,y)::ps,H3,I3,.cons ⟨rx,ry⟩ rel,q3⟩)
def fV (kvs more:List (Key × V)):List (Key × V):=more.foldl (fun acc kv=>jA acc kv.1 kv.2) kvs
theorem KV.merge:∀{more:List (Key × V)} {rs:List (Key × Value)} {kvs:List (Key × V)} {vs:List (Key × Value)},KV more rs->KV kvs vs->KV (fV kvs more) (merged vs rs):=by
 intro more rs kvs vs r
 unfold KV at r
 induction r generalizing kvs vs with
 | nil=>intro q;exact q
 | @cons p q ps qs h t ih=>
  intro r0
  have e:KV (jA kvs p.1 p.2) (stored vs q.1 q.2):=by
   have:=r0.put p.1 h.2
   rw [<- h.1];exact this
  exact ih e
theorem iU:∀(more kvs:List (Key × V)),(fV kvs more).length<=kvs.length+more.length
 | [],kvs=>by show kvs.length<=kvs.length+0;omega
 | p::r,kvs=>by
  have h1:=iU r (jA kvs p.1 p.2)
  have h2:=sR kvs p.1 p.2
  show (fV (jA kvs p.1 p.2) r).length<=_
  rw [List.length_cons];omega
theorem nF {P:Program} {w:World}:∀{kvs:List (Key × V)} {ws:List (Value × Value)},VV (kvs.map fun kv=>(kV kv.1,kv.2)) ws->∃rs,Carries (cV P w) ws rs/\KV kvs rs
 | [],_,r=>by rw [List.map_nil] at r;cases r;exact⟨[],True.intro,.nil⟩
 | p::kvs,_,r=>by
  rw [List.map_cons] at r
  cases r with
  | @cons a b as bs h t=>
   obtain⟨rs,c,q⟩:=nF (P:=P) (w:=w) t
   obtain⟨b1,b2⟩:=b
   exact⟨(p.1,b2)::rs,⟨kV_is h.1,rfl,c⟩,.cons ⟨rfl,h.2⟩ q⟩
def tDisp (trs:List (TE × TE)):TE:=fun σ H Q=>∀p,H p=none->tU trs σ (upd H p (.dK [])) fun ps H2=>H2 p=some (.dK [])/\∃kvs:List (Key × V),ps=kvs.map (fun kv=>(kV kv.1,kv.2))/\kvs.length<=15/\Q (.ref p) (upd H2 p (.dK (fV [] kvs)))
theorem pe_disp {X:Cx} {pos:Pos} {keys:List (Option Expr)} {values:List Expr} {trs:List (TE × TE)} (h:PPs X pos keys values trs) (hall:keys.all (·.isSome)=true) (hl:keys.length=values.length) (h0:keys≠[])
  (h15:keys.length<=15):PE X (.Dict keys values pos) (tDisp trs):=by
 intro pins s σ H Q I q
 have hn:=I.hok.fresh (Nat.le_refl s.heap.objs.size)
 have I1:=I.laid (a:=s.heap.objs.size) (o:=.dK []) (h':=s.heap.push { cls:=.type "dict",data:=.dict #[] }) (t':=s.toks) (fun _ _ q=>Heap.get?_push_of_some _ q) (Nat.le_refl _) (AaR s.heap I.big)
 refine wpAny_Dict_walk (knd:=cV X.prog X.w) hall hl h0 h15 (thn (h pins _ σ _ _ I1 (q _ hn)) fun ws s2 ⟨ps,H2,I2,rel,e,kvs,ep,lk,q2⟩=>?_)
 subst ep
 obtain⟨rs,c,rk⟩:=nF (P:=X.prog) (w:=X.w) rel
 obtain⟨z,hd,vs0,r0,dd⟩:=dk_of I2.hok e
 cases r0
 refine⟨rs,c,dd,fun h' dd' hs=>⟨.ref s.heap.objs.size,_,?_,rfl,q2⟩⟩
 have hz:(fV [] kvs).length<=sizeLine:=by
  have h1:=iU kvs []
  rw [List.length_nil] at h1
  rw [sizeLine_eq];omega
 have he:∃q,h'.get? s.heap.objs.size=some q:=let ⟨q,_,_,hq,_⟩:=dd';⟨q,hq⟩
 exact d_write I2 (by rw [e];exact True.intro) hs he (dk_new hz hd (rk.merge .nil) dd')
structure M1 (X:Cx) (o:Expr) (m:Str) (apos:Pos) (e:Expr) (cpos:Pos):Prop where
 base:attributeBase o m X.env (eval o X.env)=eval o X.env
 few:((backTo cpos (starEach [e] X.env)).all (fun x=>!x.1) && (backToKw cpos (keywordEach [] X.env)).all (fun x=>x.1.isSome)
  && decide (([e]:List Expr).length+([]:List Keyword).length+(if ([]:List Keyword).isEmpty then 0 else 1)<30))=true
 line:(apos.endLine == cpos.line)=true
 trees:backTo cpos (starEach [e] X.env)=[(false,eval e X.env)]
structure M2 (X:Cx) (o:Expr) (m:Str) (apos:Pos) (e f:Expr) (cpos:Pos):Prop where
 base:attributeBase o m X.env (eval o X.env)=eval o X.env
 few:((backTo cpos (starEach [e,f] X.env)).all (fun x=>!x.1) && (backToKw cpos (keywordEach [] X.env)).all (fun x=>x.1.isSome)
  && decide (([e,f]:List Expr).length+([]:List Keyword).length+(if ([]:List Keyword).isEmpty then 0 else 1)<30))=true
 line:(apos.endLine == cpos.line)=true
 trees:backTo cpos (starEach [e,f] X.env)=[(false,eval e X.env),(false,eval f X.env)]
def IsD (H:Hp) (a:Addr):Prop:=(∃kvs,Rd H a (.dK kvs))\/∃kvs,Rd H a (.dT kvs)
theorem isD_at {X:Cx} {pins:List (Addr × Obj)} {σ:St} {H:Hp} {s:Shared} {a:Addr} (I:Inv X pins σ H s) (d:IsD H a):
  s.TypeIs (.ref a) "dict"/\(∀b,Value.ref a=.ref b->∃ob,s.heap.get? b=some ob/\ob.dict=none)/\(a == sysModules)=false:=by
 rcases d with ⟨kvs,e⟩|⟨kvs,e⟩
 ·obtain⟨_,hd,vs,_,dd⟩:=dk_rd I.hok e
  refine⟨dd.typeIs,fun b q=>?_,hd⟩
  cases q
  obtain⟨ob,_,_,h1,h2,_⟩:=dd
  exact⟨ob,h1,h2.2.1⟩
 ·obtain⟨_,hd,xs,_,dd⟩:=dt_rd I.hok e
  refine⟨dd.typeIs,fun b q=>?_,hd⟩
  cases q
  obtain⟨ob,_,_,h1,h2,_⟩:=dd
  exact⟨ob,h1,h2.2.1⟩
section
variable {X:Cx} {pins:List (Addr × Obj)} {σ:St} {H:Hp} {s:Shared} {a:Addr} {y d:V} {u r:Value} {o:Option V} {A:Around} {E:Value->Shared->Prop}
theorem d_get2 {Q:Value->Shared->Prop} (hu:A.units+1<cLine) (I:Inv X pins σ H s) (g:DGet H a y o) (ry:cJ y u) (rd:cJ d r) (h:∀w' s',Inv X pins σ H s'->cJ (o.getD d) w'->Q w' s'):
  wpAny (model X.prog X.w) A (call (.builtin "dict.get") [.ref a,u,r]) Q E s:=by
 rcases g with ⟨kvs,k,e,ey,l⟩|⟨kvs,k,b,e,ey,eb,l⟩
 ·subst ey
  obtain⟨z,hd,vs,rel,dd⟩:=dk_rd I.hok e
  refine call_meetsIn PySem.F.slot_dict_get dd.typeIs PySem.F.entry_dict_get (PySem.F.args_dict_get_3 _ _ _) (meets_dict_get_default (cV X.prog X.w) a (kV_is ry) hd r) ⟨_,dd.mapOf,h _ _ (I.tok _) ?_⟩
  rw [l]
  exact(rel.val k).getD rd
 ·subst ey
  cases (show u=Value.ref b from ry)
  obtain⟨z,hd,xs,rel,dd⟩:=dt_rd I.hok e
  refine call_meetsIn PySem.F.slot_dict_get dd.typeIs PySem.F.entry_dict_get (PySem.F.args_dict_get_3 _ _ _) (meetsH_dict_get_default (tupleKind (cV X.prog X.w)) a b hd r) ⟨tupleKind_room_in1 hu,k,xs,AaE I.hok eb,dd,h _ _ (I.tok _) ?_⟩
  rw [l]
  exact(rel.val k).getD rd
end
def tDGet2 (td ty tx:TE):TE:=fun σ H Q=>td σ H fun x H1=>∃a,x=.ref a/\IsD H1 a/\ty σ H1 fun y H2=>tx σ H2 fun z H3=>∃o,DGet H3 a y o/\Q (o.getD z) H3
section
variable {X:Cx} {o e f:Expr} {apos cpos:Pos} {td ty tx:TE}
theorem zB (hu:X.A.units+1<cLine) (ho:PE X o td) (he:PE X e ty) (hf:PE X f tx) (m:M2 X o "get" apos e f cpos):PE X (.Call (.Attribute o "get" apos) [e,f] [] cpos) (tDGet2 td ty tx):=by
 intro pins s σ H Q I h
 refine wpAny_Call_method m.base m.few m.line PySem.F.plainAttrs_dict PySem.F.slot_dict_get PySem.F.type_dict_get (thn (ho s σ H _ I h) fun u s1 ⟨x,H1,I1,rx,a,ex,d,q1⟩=>?_)
 subst ex
 obtain rfl:u=Value.ref a:=rx
 obtain⟨t1,t2,_⟩:=isD_at I1 d
 refine⟨t1,t2,?_⟩
 rw [m.trees]
 refine Calls.callWith_builtin rfl (Calls.evalArgs_plain (Calls.spliced_cons (thn (he s1 σ H1 _ I1 q1) fun iv s2 ⟨y,H2,I2,ry,q2⟩=>
  Calls.spliced_cons (thn (hf s2 σ H2 _ I2 q2) fun fv s3 ⟨z,H3,I3,rz,ov,g,q3⟩=>Calls.spliced_nil ?_))))
 exact d_get2 hu I3 g ry rz fun w' s4 I4 rw'=>⟨_,H3,I4,rw',q3⟩
end
section
variable {X:Cx} {pins:List (Addr × Obj)} {σ:St} {H:Hp} {s:Shared} {a:Addr} {kvs:List (Key × V)} {A:Around} {E:Value->Shared->Prop}
end
section
variable {X:Cx} {pins:List (Addr × Obj)} {σ:St} {H:Hp} {s:Shared} {a:Addr} {y:V} {u:Value} {A:Around} {E:Value->Shared->Prop}
end
section
variable {X:Cx}
def rCatA:R2:=fun x y H Q=>∃a b xs ys,x=.ref a/\y=.ref b/\H a=some (.tup xs)/\H b=some (.tup ys)/\xs.length+ys.length<=sizeLine /\
 ∀p H',aV H H'->H' p=some (.tup (xs++ys))->Q (.ref p) H'
theorem aG {H:Hp} {p:Addr} {o:HO} (h:H p=none):aV H (upd H p o):=fun b u q=>by
 rw [aP (aL q h)]
 exact q
theorem cU:OpR X (binaryOp .Add) rCatA:=by
 intro pins s σ H x y v u Q I rx ry h
 obtain⟨a,b,xs,ys,rfl,rfl,ha,hb,hz,q⟩:=h
 by_cases hx:xs=[]
 ·subst hx
  cases (show v=Value.ref a from rx)
  cases (show u=Value.ref b from ry)
  obtain⟨its,r1,p1,_⟩:=I.tuple (SqT.of ha)
  obtain⟨its2,r2,p2,_⟩:=I.tuple (SqT.of hb)
  cases r1
  obtain⟨⟨cls,dd,data,sl⟩,ho,hc,n,hd⟩:=p1
  obtain⟨⟨cls2,dd2,data2,sl2⟩,ho2,hc2,n2,hd2⟩:=p2
  simp only at hc hd hc2 hd2
  subst hc hd hc2 hd2
  exact concat_meets ⟨_,ho,rfl⟩ ⟨_,ho2,rfl⟩ noFill_tuple_add seq_tuple_add PySem.F.slot_tuple_add PySem.F.entry_tuple_add (PySem.F.args_tuple_add_2 _ _)
   (tuple_addW0 a b _ its2.toArray n n2 dd dd2 sl sl2 rfl) ⟨ho,ho2,⟨.ref b,H,I,rfl,q b H (aV.refl H) (by simpa using hb)⟩⟩
 ·refine op_catT pins s σ H _ _ v u Q I rx ry ⟨a,b,xs,ys,rfl,rfl,SqT.of ha,SqT.of hb,hx,hz,fun z=>?_,fun z p hp=>?_⟩
  ·subst z
   exact q a H (aV.refl H) (by simpa using ha)
  ·exact q p _ (aG hp) aE
theorem zD:OpR X (binaryOp .FloorDiv) (rI (fun _ j=>0<j/\j<2 ^ 64) fun i j=>.int (i / j)):=opI fun i j _ _ _ _ _ hc q=>by
 have e:i.fdiv j=i / j:=Int.fdiv_eq_ediv_of_nonneg _ (Int.le_of_lt hc.1)
 rw [<- e] at q
 refine floordiv_int (Int.ne_of_gt hc.1) q (.inl (PyProof.noPylong_of_log2 ?_))
 have h1:j.natAbs<2 ^ 64:=by omega
 have h2:j.natAbs≠0:=by omega
 have h3:j.natAbs.log2<64:=(Nat.log2_lt h2).mpr h1
 omega
end
end L2
namespace HT
open PySem PyProof.Rows
section
variable {prog:Program} {w:World} {A:Around} {E:Value->Shared->Prop} {s:Shared}
theorem getItem_tuple_all {t sl:Addr} {items:Array Value} {vl vu:Value} {lo hi:Option Int} {Q:Value->Shared->Prop} (ht:IsTup s.heap t items) (hs:s.heap.IsSliceOf sl vl vu .none) (pl:IsPart vl lo) (pu:IsPart vu hi)
  (hw:sIx items.size 0 lo=0/\sIx items.size items.size hi=items.size) (h:Q (.ref t) s):wpAny (model prog w) A (getItem (.ref t) (.ref sl)) Q E s:=by
 obtain⟨os,hos,hcs,hds⟩:=id hs
 have hTs:s.TypeIs (.ref sl) "slice":=⟨os,hos,hcs⟩
 unfold getItem
 try with_reducible refine wpAny_holding ?_
 first|refine wpAny_bind (wpAny_pure ?_)|skip
 refine wpAny_bind (wpAny_sequenceKey ht.typeIs (by decide) ?_)
 refine wpAny_bind (wpAny_callSpecial?_slot (name:=Str.ofString "__getitem__") ht.typeIs PyProof.Rows.slot_tuple_getitem
  (wpAny_call_entry PyProof.Rows.slot_tuple_getitem ht.typeIs entry_tuple_getitem ?_ (args_tuple_getitem _ _)))
 show wpAny _ _ (Builtin.Tuple.tupleItemsOf (.ref t) >>= _) _ _ s
 refine wpAny_bind (tupleItemsOf_ ht ?_)
 refine wpAny_bind (wpAny_typeOf hTs ?_)
 rw [if_pos (by decide)]
 refine wpAny_bind (gH hs pl pu ?_)
 have hyes:(((sIx items.size 0 lo:Nat):Int) == 0 && (1:Int) == 1 && (sIx items.size items.size hi-sIx items.size 0 lo) == items.size)=true:=by
  rw [hw.1,hw.2]
  simp
 show wpAny _ _ (if (((sIx items.size 0 lo:Nat):Int) == 0 && (1:Int) == 1 && (sIx items.size items.size hi-sIx items.size 0 lo) == items.size)=true then _ else _) _ _ s
 rw [if_pos hyes]
 obtain⟨o,ho,hc,n,hd⟩:=id ht
 refine wpAny_bind ?_
 unfold Builtin.Tuple.tupleIsExact
 refine wpAny_bind (wpAny_typeOf ht.typeIs ?_)
 refine wpAny_pure ?_
 rw [if_pos (by decide)]
 refine wpAny_bind (wpAny_rule ?_)
 exact wpAny_pure ⟨_,rfl,wpAny_pure h⟩
end
end HT
namespace L2
open PySem PySem.Spec PyProof.Rows
section
variable {X:Cx}
def rSlA:V->Option Int->Option Int->Hp->VK->Prop:=fun x lo hi H Q=>∃a xs,x=.ref a/\H a=some (.tup xs)/\∀p H',aV H H'->H' p=some (.tup (cY xs lo hi))->Q (.ref p) H'
theorem lZ:SlR X rSlA:=by
 intro pins s σ H x v vl vu lo hi sl Q I rx hs pl pu h
 obtain⟨a,xs,rfl,hx,q⟩:=h
 by_cases hw:HT.sIx xs.length 0 lo=0/\HT.sIx xs.length xs.length hi=xs.length
 ·cases (show v=Value.ref a from rx)
  obtain⟨its,r,ht,hz⟩:=I.tuple (SqT.of hx)
  have hlen:its.toArray.size=xs.length:=by rw [List.size_toArray];exact r.length.symm
  refine⟨"tuple",_,PyProof.Rows.slot_tuple_getitem.lookup,ht.typeIs,?_⟩
  refine HT.getItem_tuple_all ht hs pl pu (by rw [hlen];exact hw) ⟨.ref a,H,I,rfl,q a H (aV.refl H) ?_⟩
  have e:cY xs lo hi=xs:=by
   unfold cY
   rw [hw.1,hw.2]
   simp
  rw [e]
  exact hx
 ·exact sl_tup pins s σ H _ v vl vu lo hi sl Q I rx hs pl pu ⟨a,xs,rfl,SqT.of hx,hw,fun p hp=>q p _ (aG hp) aE⟩
def wG:Expr->Bool
 | .Starred _ _=>false
 | _=>true
theorem rL {e:Expr} {es:List Expr} {env:Env} (h:wG e=true):starEach (e::es) env=(false,eval e env)::starEach es env:=by
 cases e <;> first|rfl|cases h
structure PAc (X:Cx) (es:List Expr) (t:TA):Prop where
 h:PA X es t
theorem pcn {X:Cx}:PAc X [] kT:=⟨aB⟩
theorem pcc {X:Cx} {e:Expr} {es:List Expr} {te:TE} {t:TA} (ha:PE X e te) (hr:PAc X es t) (h:wG e=true:=by rfl):PAc X (e::es) (gG te t):=⟨aA ha hr.h (rL h)⟩
theorem jL {X:Cx} {es:List Expr} {t:TA} {pos:Pos} (h:PAc X es t):PE X (.List es pos) (tLst t):=bU h.h
end
abbrev Cx.blkF (X:Cx) (NB:List Str) (scope:Scope) (cl:List (Str × Addr)) (C:Addr) (s:Shared) (H:Hp) (fp:List Addr) (pn:List (Addr × Obj)):Cx:=
 { X with N:=NB,s₀:=s,H₀:=H,env:=compEnvC scope cl C X.env,outer:=X.stack,ex:=fp,fn:=fun _=>false,pn:=pn,xe:=fun _ _=>False }
def eY (n:Nat) (js:List Nat) (σ:St):St:=List.replicate n none++js.map fun j=>(σ[j]?).join
def tV (n:Nat) (js:List Nat) (wi:TI) (g:TG) (tc:TT) (te:TE):TE:=fun σ H Q=>wi σ H fun J H1=>∀acc,H1 acc=none ->
 ∃W:Nat->Nat->List V->Hp->Prop,(∃m,W 0 m [] (upd H1 acc (.lst [])))/\∀i m ys H,W i m ys H->H acc=some (.lst ys) /\
  ((J.stop i H/\Q (.ref acc) H)\/(J.go i H/\∀x H',J.yld i H x H'->g x (eY n js σ) H' fun σ2 H2=>σ2.drop n=(eY n js σ).drop n/\tc σ2 H2 fun b H3=>
   if b=true then te σ2 H3 fun y H4=>H4 acc=some (.lst ys)/\ys.length<sizeLine/\∃m',m'<m/\W (i+1) m' (ys++[y]) (upd H4 acc (.lst (ys++[y])))
   else ∃m',m'<m/\W (i+1) m' ys H3))
structure dZ (X:Cx) (NB:List Str) (n:Nat) (js:List Nat) (scope:Scope) (cl:List (Str × Addr)):Prop where
 clo:closureFor scope X.env=pure cl
 sub:∀x c,cl.lookup x=some c->X.env.cells.lookup x=some c
 has:∀x,((relabel scope X.env).names.lookup x=some .cell\/(relabel scope X.env).names.lookup x=some .free)->(cl.lookup x).isSome=true
 len:NB.length=n+js.length
 nam:∀k j,js[k]?=some j->NB[n+k]?=X.N[j]?
 ck:∀x,Vis (relabel scope X.env) x->x ∈ NB.drop n->((relabel scope X.env).names.lookup x=some .cell\/(relabel scope X.env).names.lookup x=some .free)/\(X.env.kindOf x=some .cell\/X.env.kindOf x=some .free)/\(cl.lookup x).isSome=true
section
variable {X:Cx} {NB:List Str} {n:Nat} {js:List Nat} {scope:Scope} {cl:List (Str × Addr)}
theorem iP (T:dZ X NB n js scope cl) (σ:St):(eY n js σ).length=NB.length:=by
 unfold eY
 rw [List.length_append,List.length_replicate,List.length_map,T.len]
theorem jU {σ:St} {i:Nat} {v:V} (h:(eY n js σ)[i]?=some (some v)):∃k j,i=n+k/\js[k]?=some j/\σ[j]?=some (some v):=by
 unfold eY at h
 rcases Nat.lt_or_ge i n with c|c
 ·rw [List.getElem?_append_left (by rw [List.length_replicate];exact c),List.getElem?_replicate,if_pos c] at h
  cases h
 ·rw [List.getElem?_append_right (by rw [List.length_replicate];exact c),List.length_replicate,List.getElem?_map] at h
  cases hj:js[i-n]? with
  | none=>rw [hj] at h;cases h
  | some j=>
   rw [hj] at h
   have h:some ((σ[j]?).join)=some (some v):=h
   have h:=Option.some.inj h
   refine⟨i-n,j,by omega,hj,?_⟩
   cases hs:σ[j]? with
   | none=>rw [hs] at h;cases h
   | some o=>
    rw [hs] at h
    have h:o=some v:=h
    rw [h]
theorem nI {pins:List (Addr × Obj)} {σ:St} {H:Hp} {s:Shared} {h4:Heap} {tk:Nat} {fp:List Addr} (I:Inv X pins σ H s) (hk:scope.kind=.function) (T:dZ X NB n js scope cl)
  (hf:∀b ∈ fp,gF X pins H b) (ho:∀b ∈ fp,b<s.heap.objs.size) {m:Str->Option Value} (hn:h4.Ns s.heap.objs.size m) (keep:∀b o,s.heap.get? b=some o->h4.get? b=some o):
  Inv (X.blkF NB scope cl s.heap.objs.size s H fp (X.pn++pins)) [] (eY n js σ) H { s with heap:=h4,toks:=tk }:=by
 have stk:∀b,b≠X.env.locals->b ∉ X.fs->b ∉ frs X.stack:=fun b h1 h2 z=>(List.mem_cons.mp (I.stkSub b z)).elim h1 h2
 obtain⟨m0,hn0,hl0⟩:=I.loc
 refine⟨⟨I.ok.mod,hk,I.ok.glob,I.ok.blt,Nat.le_refl _,fun x y c q1 q2=>I.ok.inj x y c (T.sub x c q1) (T.sub y c q2),fun x q=>Option.isSome_iff_exists.mp (T.has x q),fun x c q=>(nomatch q),I.ok.hd,I.ok.frames,.inl rfl,fun b hb=>⟨Nat.ne_of_lt (ho b hb),fun x c q=>(hf b hb).2.2.2.2.1 x c (T.sub x c q)⟩,I.bs,Nat.le_trans I.ok.bsz I.sz,
  fun b o q hb=>?_,fun b hb=>stk b (hf b hb).2.1 (hf b hb).2.2.1,I.stack,I.stkFree⟩,rfl,I.bare,Un.kept keep,⟨m,hn,fun i x v q1 q2 q3=>?_⟩,fun x c q=>?_,I.hok.fresh (Nat.le_refl _),fun x c q=>I.freeC x c (T.sub x c q),fun p hp=>?_,I.hok.kept keep,?_⟩
 ·rcases (hf b hb).2.2.2.1 with z|z
  ·exact I.ok.noex b o q z
  ·exact absurd (Nat.lt_of_lt_of_le (Heap.lt_size q) (Nat.le_trans I.ok.bsz z)) (Nat.lt_irrefl _)
 ·obtain⟨k,j,rfl,hj,hs⟩:=jU q2
  have q1:NB[n+k]?=some x:=q1
  have hx:X.N[j]?=some x:=by rw [<- T.nam k j hj];exact q1
  have hd:x ∈ NB.drop n:=List.mem_of_getElem? (i:=k) (by rw [List.getElem?_drop];exact q1)
  obtain⟨k1,k2,k3⟩:=T.ck x q3 hd
  obtain⟨c,hc⟩:=Option.isSome_iff_exists.mp k3
  obtain⟨u,ru,lu⟩:=hl0 j x v hx hs (k2.elim (fun z=>.inr (.inl z)) fun z=>.inr (.inr z))
  refine⟨u,ru,.inr ⟨k1,c,hc,?_⟩⟩
  rcases lu with ⟨z,_⟩|⟨_,c',hc',o,ho',hd'⟩
  ·rcases k2 with w|w <;> (rw [w] at z;cases z)
  ·have e:c'=c:=Option.some.inj (hc'.symm.trans (T.sub x c hc))
   subst e
   exact⟨o,keep _ _ ho',hd'⟩
 ·obtain⟨v,o,ho',hd'⟩:=I.cell x c (T.sub x c q)
  exact⟨v,o,keep _ _ ho',hd'⟩
 ·have hp':p ∈ X.pn++pins:=by simpa using hp
  obtain⟨q,n,ne,nf,d⟩:=I.pin p hp'
  exact⟨keep _ _ q,n,Nat.ne_of_lt (Heap.lt_size q),stk _ ne nf,d⟩
 ·exact iP T σ
theorem iO {pins:List (Addr × Obj)} {σ σ':St} {H H':Hp} {s s':Shared} {h2:Heap} {fp:List Addr} {pl:List (Addr × Obj)} (I:Inv X pins σ H s) (hf:∀b ∈ fp,gF X pins H b) (ho:∀b ∈ fp,b<s.heap.objs.size)
  (J:Inv (X.blkF NB scope cl s.heap.objs.size s H fp (X.pn++pins)) pl σ' H' s') (hs:Heap.SameBut s.heap.objs.size s'.heap h2):Inv X pins σ H' { s' with heap:=h2 }:=by
 have u:=J.base
 have low:∀b o,s.heap.get? b=some o->b≠s.heap.objs.size:=fun b o q=>Nat.ne_of_lt (Heap.lt_size q)
 refine I.call' (s':={ s' with heap:=h2 }) (ch:=fp) J.os ⟨fun b o q n hb he=>(hs.2 b (low b o q)).trans (u.keep b o q n hb he),fun b o q n hb he=>?_,u.free,fun b o q he=>?_,u.tups,u.frzs,u.tbls⟩ (fun b o q=>?_) J.bare fun b hb=>?_
 ·obtain⟨sl,z⟩:=u.slot b o q n hb he
  exact⟨sl,(hs.2 b (low b o q)).trans z⟩
 ·obtain⟨o',z⟩:=u.there b o q he
  exact⟨o',(hs.2 b (low b o q)).trans z⟩
 ·refine(J.hok b o q).stay (fun c w' hc r=>(hs.2 c ?_).trans r) (fun _ r=>r) fun _ _ r=>r
  have fr:H' s.heap.objs.size=none:=J.free
  rintro rfl
  rcases hc with rfl|hc
  ·rw [fr] at q;cases q
  ·rw [fr] at hc;cases hc
 ·obtain⟨f0,f1,f2,f3,f4,f5⟩:=hf b hb
  exact⟨f3,f1,f4,f5⟩
theorem eP {elt tg iter:Expr} {ifs:List Expr} {pos:Pos} {wi:TI} {g:TG} {tc:TT} {te:TE} (hk:scope.kind=.function) (hcell:∀x ∈ scope.names,x.2≠.cell)
  (hnames:∀x ∈ scope.names,x.2=.local->scope.names.lookup x.1=some .local) (_:(0:Nat)=0) (T:dZ X NB n js scope cl) (hi:PI X tg iter wi)
  (hg:∀C s H fp pn,PG (X.blkF NB scope cl C s H fp pn) tg g) (ht:∀C s H fp pn,PTs (X.blkF NB scope cl C s H fp pn) ifs tc) (he:∀C s H fp pn,PE (X.blkF NB scope cl C s H fp pn) elt te)
  (hs:∀x,foldedSetIterable iter X.env x=pure x:=by intro _;rfl):PE X (.ListComp elt [⟨tg,iter,ifs,0⟩] scope pos) (tV n js wi g tc te):=by
 intro pins s σ H Q I h
 rw [eval_ListComp]
 refine wpAny_comprehension_free (use:=none) rfl hs T.clo hk hnames (thn (hi s σ H _ I h) fun v s1 h1=>thn h1 fun itv s2 h2=>?_)
 obtain⟨it,fp,tn,J,H2,rfl,I2,U,st2,f2,h2⟩:=h2
 have lt2:∀b ∈ fp,b<s2.heap.objs.size:=fun b hb=>by
  obtain⟨o,q,_⟩:=U.obj 0 _ st2 b hb
  exact Heap.lt_size q
 refine wpAny_newObj_type ?_
 have hz:H2 s2.heap.objs.size=none:=I2.hok.fresh (Nat.le_refl _)
 obtain⟨W,⟨m0,w0⟩,turn⟩:=h2 s2.heap.objs.size hz
 have I3:Inv X pins σ (upd H2 s2.heap.objs.size (.lst [])) { s2 with heap:=s2.heap.push { cls:=.type "list",dict:=none,data:=.seq ([]:List Value).toArray } }:=
  I2.laid (t':=s2.toks) (fun b o q=>Heap.get?_push_of_some _ q) (Nat.le_refl _) ⟨Nat.zero_le _,[],0,.nil,Heap.get?_push_size _ rfl⟩
 generalize hs3:({ s2 with heap:=s2.heap.push { cls:=.type "list",dict:=none,data:=.seq ([]:List Value).toArray } }:Shared)=s3 at I3 ⊢
 have ups3:∀b o,s2.heap.get? b=some o->s3.heap.get? b=some o:=fun b o q=>by rw [<- hs3];exact Heap.get?_push_of_some _ q
 have f3:∀b ∈ fp,gF X pins (upd H2 s2.heap.objs.size (.lst [])) b:=fun b hb=>⟨by rw [aP (Nat.ne_of_lt (lt2 b hb))];exact(f2 b hb).1,(f2 b hb).2⟩
 have lt3:∀b ∈ fp,b<s3.heap.objs.size:=fun b hb=>by
  obtain⟨o,q,_⟩:=U.obj 0 _ st2 b hb
  exact Heap.lt_size (ups3 b o q)
 refine wpAny_newFunctionEnv hcell (by intro y hy;simp at hy) (fun h4 hn4 hs4=>?_) hk
 have keep4:∀b o,s3.heap.get? b=some o->h4.get? b=some o:=fun b o q=>(hs4.2 b (Nat.ne_of_lt (Heap.lt_size q))).trans (Heap.get?_push_of_some _ q)
 have I4:=nI (tk:=s3.toks+([]:List (Str × Value)).length) I3 hk T f3 lt3 hn4 keep4
 have st4:tn 0 h4:=U.keep _ _ _ st2 fun b hb o q=>keep4 b o (ups3 b o q)
 have fpY:∀{H':Hp},(∀b ∈ fp,H' b=none)->∀b ∈ fp,gF (X.blkF NB scope cl s3.heap.objs.size s3 (upd H2 s2.heap.objs.size (.lst [])) fp (X.pn++pins)) [] H' b:=fun hn b hb=>by
  obtain⟨g0,g1,g2,g3,g4,g5⟩:=f3 b hb
  exact⟨hn b hb,Nat.ne_of_lt (lt3 b hb),fun z=>(List.mem_cons.mp (I3.stkSub b z)).elim g1 g2,.inl hb,fun x c q=>g4 x c (T.sub x c q),fun p hp=>g5 p (by simpa using hp)⟩
 have loop:∀s5:Shared,s5={ s3 with heap:=h4,toks:=s3.toks+([]:List (Str × Value)).length }->codeAny (model X.prog X.w) X.A (.compLoop (.ListComp elt [⟨tg,iter,ifs,0⟩] scope pos) 0 (.ref it) (.ref s2.heap.objs.size) (compEnvC scope cl s3.heap.objs.size X.env))
   (compPost (model X.prog X.w) X.A X.xe none (EP X pins σ Q) (.ref s2.heap.objs.size) s3.heap.objs.size) s5:=by
  rintro s5 rfl
  refine codeAny_loop rfl (fun k s'=>∃i ys H',Inv (X.blkF NB scope cl s3.heap.objs.size s3 (upd H2 s2.heap.objs.size (.lst [])) fp (X.pn++pins)) [] (eY n js σ) H' s'/\tn i s'.heap/\(∀b ∈ fp,H' b=none)/\W i k ys H')
   (fun k s6 hI=>?_) m0 ⟨0,[],_,I4,st4,fun b hb=>(f3 b hb).1,w0⟩
  obtain⟨i,ys,H6,I6,st6,fr6,w6⟩:=hI
  show wpAny _ _ ((compTurn (.ListComp elt [⟨tg,iter,ifs,0⟩] scope pos) 0 (.ref it) (.ref s2.heap.objs.size) (compEnvC scope cl s3.heap.objs.size X.env)).onRaise (fun x=>do noteFrame x (compEnvC scope cl s3.heap.objs.size X.env);theTreesLotGoes x)) _ _ s6
  refine wpAny_noted ?_
  rw [compTurn_list]
  refine wpAny_bind (wpAny_standAt (wpAny_bind ?_))
  obtain⟨hacc,alt⟩:=turn i k ys H6 w6
  rcases alt with ⟨stop,q⟩|⟨go,step⟩
  ·refine thn (U.done (X.blkF NB scope cl s3.heap.objs.size s3 (upd H2 s2.heap.objs.size (.lst [])) fp (X.pn++pins)) rfl rfl rfl rfl i [] s6 _ H6 _ I6 (fpY fr6) st6 stop) fun r s7 ⟨hr,I7⟩=>?_
   subst hr
   obtain⟨m,hm,_⟩:=I7.loc
   exact wpAny_pure ⟨m,hm,fun h' hsb=>⟨.ref s2.heap.objs.size,H6,iO I3 f3 lt3 I7 hsb,rfl,q⟩⟩
  ·refine thn (U.item (X.blkF NB scope cl s3.heap.objs.size s3 (upd H2 s2.heap.objs.size (.lst [])) fp (X.pn++pins)) rfl rfl rfl rfl i [] s6 _ H6 _ I6 (fpY fr6) st6 go) fun r s7 ⟨u,hr,h7⟩=>?_
   subst hr
   refine wpAny_bind (thn h7 fun _ s8 ⟨x,H8,I8,r8,y8,st8,fr8⟩=>?_)
   have I8':=I8.pinned (fpY fr8) (U.obj _ _ st8)
   have gp:∀{σ9:St} {H9:Hp} {s9:Shared},Inv (X.blkF NB scope cl s3.heap.objs.size s3 (upd H2 s2.heap.objs.size (.lst [])) fp (X.pn++pins)) ([]++dO fp s8.heap) σ9 H9 s9->tn (i+1) s9.heap/\∀b ∈ fp,H9 b=none:=fun I9=>
    ⟨U.keep _ _ _ st8 fun b hb o e=>(I9.pin (b,o) (List.mem_append_right _ (List.mem_append_right _ (cX hb e)))).1,fun b hb=>by
     obtain⟨o,e,d⟩:=U.obj _ _ st8 b hb
     exact(I9.pin (b,o) (List.mem_append_right _ (List.mem_append_right _ (cX hb e)))).2.1⟩
   have wk:∀{σ9:St} {H9:Hp} {s9:Shared},σ9.drop n=(eY n js σ).drop n->Inv (X.blkF NB scope cl s3.heap.objs.size s3 (upd H2 s2.heap.objs.size (.lst [])) fp (X.pn++pins)) ([]++dO fp s8.heap) σ9 H9 s9->Inv (X.blkF NB scope cl s3.heap.objs.size s3 (upd H2 s2.heap.objs.size (.lst [])) fp (X.pn++pins)) [] (eY n js σ) H9 s9:=fun {σ9 H9 s9} hd I9=>
    I9.unpinned.weak (by rw [iP T,I9.len]) fun k v z=>by
     obtain⟨k',j,rfl,_,_⟩:=jU z
     have e:=congrArg (fun l=>l[k']?) hd
     simp only [List.getElem?_drop] at e
     rw [e]
     exact z
   refine wpAny_bind (wpAny_mono (hg _ _ _ _ _ s8 _ H8 x u _ I8' r8 (step x H8 y8)) (fun _ s9 hq=>?_) fun _ _ z=>z.elim)
   obtain⟨σ9,H9,I9,hd9,q9⟩:=hq
   refine wpAny_bind (wpAny_mono (ht _ _ _ _ _ s9 σ9 H9 _ I9 q9) (fun ok s10 hq=>?_) fun _ _ z=>z.elim)
   obtain⟨H10,I10,q10⟩:=hq
   cases ok with
   | false=>
    rw [if_neg (by simp)] at q10
    obtain⟨m',hm',w10⟩:=q10
    exact wpAny_pure ⟨rfl,m',hm',i+1,ys,H10,wk hd9 I10,(gp I10).1,(gp I10).2,w10⟩
   | true=>
    rw [if_pos rfl] at q10
    refine wpAny_bind (wpAny_bind (wpAny_mono (he _ _ _ _ _ s10 σ9 H10 _ I10 q10) (fun y s11 hq=>?_) fun _ _ z=>z.elim))
    obtain⟨yv,H11,I11,ry,ha11,hl11,m',hm',w11⟩:=hq
    have mt:=gK (X:=X.blkF NB scope cl s3.heap.objs.size s3 (upd H2 s2.heap.objs.size (.lst [])) fp (X.pn++pins)) ([]++dO fp s8.heap) s11 σ9 H11 (.ref s2.heap.objs.size) [yv] (.ref s2.heap.objs.size) [y] (fun _ H'=>W (i+1) m' (ys++[yv]) H') I11 rfl (.cons ry .nil) ⟨_,ys,yv,rfl,rfl,ha11,hl11,w11⟩
    refine wpAny_bind (wpAny_mono mt (fun _ s12 hq=>?_) fun _ _ z=>z.elim)
    obtain⟨v12,H12,I12,_,w12⟩:=hq
    exact wpAny_pure (wpAny_pure ⟨rfl,m',hm',i+1,_,H12,wk hd9 I12,(gp I12).1,(gp I12).2,w12⟩)
 exact codeAny_compStart_list (loop _ rfl) (U.self _ 0 _ _ _ st4 (loop _ rfl))
def iSeq (K:PySem.W.Frag) (tl:TE):TI:=fun σ H R=>tl σ H fun x H1=>∃a,x=.ref a/\(((∃xs,SqL K H1 a xs)/\R (Itl K a) H1)\/((∃xs,SqT K H1 a xs)/\R (Itt K a) H1))
theorem yW {tg l:Expr} {tl:TE} (hl:PE X l tl) (hc0:X.calm=true:=by rfl):PI X tg l (iSeq X.K tl):=by
 intro pins s σ H R I h
 refine thn (hl s σ H _ I h) fun v s1 ⟨x,H1,I1,r1,q1⟩=>?_
 obtain⟨a,e,q1⟩:=q1
 subst e
 cases r1
 rcases q1 with ⟨⟨xs,hq⟩,q⟩|⟨⟨xs,hq⟩,q⟩
 ·obtain⟨its,rv,p,hz⟩:=I1.list hq
  refine wpAny_pyIter_list p.isList ?_
  refine⟨s1.heap.objs.size,[s1.heap.objs.size],_,_,H1,rfl,I1.kept (t':=s1.toks) fun b o e=>Heap.get?_push_of_some _ e,nX a _ (I.ok.hd hc0),⟨_,Heap.get?_push_size _ rfl,rfl,rfl⟩,fun b hb=>?_,q⟩
  have e:b=s1.heap.objs.size:=by simpa using hb
  subst e
  exact I1.fpOk (Nat.le_refl _) (I1.hok.fresh (Nat.le_refl _))
 ·obtain⟨its,rv,p,hz⟩:=I1.tuple hq
  refine wpAny_pyIter_tuple (show s1.heap.IsTuple a its.toArray from p) ?_
  refine⟨s1.heap.objs.size,[s1.heap.objs.size],_,_,H1,rfl,I1.kept (t':=s1.toks) fun b o e=>Heap.get?_push_of_some _ e,lP a _ (I.ok.hd hc0),⟨_,Heap.get?_push_size _ rfl,rfl,rfl⟩,fun b hb=>?_,q⟩
  have e:b=s1.heap.objs.size:=by simpa using hb
  subst e
  exact I1.fpOk (Nat.le_refl _) (I1.hok.fresh (Nat.le_refl _))
theorem nG:eF X (.type "str") (fun xs H Q=>(∃i,xs=[.int i]/\i.natAbs.log2<1920/\Q (.str (toString i)) H)\/∃x,xs=[.str x]/\Q (.str x) H):=by
 refine qU.or fun pins s σ H xs us Q I r h=>?_
 obtain⟨x,rfl,q⟩:=h
 obtain⟨u,rfl,t,rfl⟩:=gY r
 exact PySem.P.str_of_str ⟨.str x,H,I,⟨_,rfl⟩,q⟩
theorem rJ:∀{ys:List Str} {us:List Value},bY (ys.map V.str) us->StrsAre us ys
 | [],_,.nil=>.nil
 | y::ys,_,.cons ⟨t,e⟩ r=>by
  subst e
  exact .cons _ _ (rJ r)
def rJoin (K:PySem.W.Frag):V->List V->Hp->VK->Prop:=fun x vs H Q=>∃z a ys,x=.str z/\vs=[.ref a]/\SqL K H a (ys.map V.str)/\(ys.map fun y=>y.length).sum+ys.length * z.length<=16777216/\Q (.str (Txt.join z ys)) H
theorem jM:MtM X "str.join" (rJoin X.K):=by
 intro pins s σ H x vs v us Q I rx rv h
 obtain⟨z,a,ys,rfl,rfl,hq,hz,q⟩:=h
 obtain⟨t,rfl⟩:=rx
 obtain⟨u,rfl,ru⟩:=rv.one
 cases ru
 obtain⟨its,r',pl,hz'⟩:=I.list hq
 exact join_list pl.isList (rJ r') hz fun t' k=>⟨.str _,H,I.tok _,⟨_,rfl⟩,q⟩
end
end L2
namespace L2
open PySem PySem.Spec PyProof.Rows PySem.W
open Classical in
section
variable {prog:Program} {w:World} {A:Around} {E:Value->Shared->Prop} {s:Shared}
end
section
variable {X:Cx}
theorem oW:∀{ns:List Int} {us:List Value},bY (ns.map V.int) us->∃xs:List (Int × Tok),us=xs.map (fun p=>Value.int p.1 p.2)/\xs.map (fun p=>p.1)=ns
 | [],_,.nil=>⟨[],rfl,rfl⟩
 | n::ns,_,.cons ⟨t,e⟩ r=>by
  obtain⟨xs,e1,e2⟩:=oW r
  refine⟨(n,t)::xs,?_,?_⟩
  ·rw [List.map_cons,<- e1,e]
  ·rw [List.map_cons,e2]
theorem vX (xs:List (Int × Tok)):∀k,k<=xs.length->preSum (numAt xs.toArray) k=((xs.take k).map (fun p=>p.1)).sum
 | 0,_=>rfl
 | k+1,h=>by
  have i:=vX xs k (by omega)
  show preSum (numAt xs.toArray) k+numAt xs.toArray k=_
  rw [i,List.take_add_one,List.getElem?_eq_getElem (by omega),List.map_append,List.sum_append]
  congr 1
  have:numAt xs.toArray k=(xs[k]'(by omega)).1:=by
   unfold numAt
   simp [show k<xs.length by omega]
  rw [this]
  simp
theorem AaW (hc:X.calm=true):eF X (.builtin "sum") (fun xs H Q=>∃(a:Addr) (ns:List Int),xs=[.ref a]/\SqL X.K H a (ns.map V.int)/\Q (.int ns.sum) H):=by
 intro pins s σ H xs us Q I r h
 obtain⟨a,ns,rfl,hq,q⟩:=h
 obtain⟨u,rfl,rx⟩:=gY r
 cases rx
 obtain⟨its,r',pl,hz⟩:=I.list hq
 obtain⟨xs,e1,e2⟩:=oW r'
 have hl:s.heap.IsList a (intItems xs.toArray):=by
  have e:intItems xs.toArray=its.toArray:=by
   rw [e1]
   unfold intItems
   simp
  rw [e]
  exact pl.isList
 refine sum_intListG (I.ok.hd hc) hl fun h' tk t' kp=>⟨.int _,H,I.kept kp,⟨_,rfl⟩,?_⟩
 have e:preSum (numAt xs.toArray) xs.toArray.size=ns.sum:=by
  rw [List.size_toArray,vX xs xs.length (Nat.le_refl _),List.take_length,e2]
 rw [e]
 exact q
end
section
variable {prog:Program} {w:World} {A:Around} {E:Value->Shared->Prop}
end
section
variable {X:Cx} {pos:Pos}
end
section
variable {X:Cx}
theorem Inv.byNews {pins:List (Addr × Obj)} {σ:St} {H:Hp} {s:Shared} {h':Heap} {tk:Nat} {m:Str->Option Value} (I:Inv X pins σ H s) (hn:s.heap.Ns X.env.locals m) (F:Fr X.base X.env.locals h' m) (N:News X.base X.env.locals h' (lK X.base s.heap X.env.locals)):
  Inv X pins σ H { s with heap:=h',toks:=tk }:=by
 have keep:∀b o,b≠X.env.locals->s.heap.get? b=some o->h'.get? b=some o:=fun b o hb e=>by
  cases z:X.base.get? b with
  | some o'=>
   have:=I.bk b o' z
   rw [e] at this
   cases this
   exact F.keep b o z
  | none=>exact(N (b,o) (kO hb z e)).1
 refine I.step (g':=s.gens) (d':=s.drawn) (ch:=[]) (fun _ z=>nomatch z) (fun b o hb _ _ e _=>keep b o hb e) (fun b o hb _ _ e _=>⟨o.slots,keep b o hb e⟩) (fun b o _ e n=>n) (fun b o _ e=>?_) (fun _ _ e=>e) (fun _ _ _ e=>e) (fun b ps e=>⟨#[],by simpa using e⟩) (fun m' hm=>?_) (fun b o q=>?_) I.bare
 ·by_cases hb:b=X.env.locals
  ·subst hb
   obtain⟨o',_,_,z,_⟩:=F.ns
   exact⟨o',z⟩
  ·exact⟨o,keep b o hb e⟩
 ·have:m'=m:=funext fun x=>hm.agree hn x
  subst this
  exact F.ns
 ·refine(I.hok b o q).stay (fun c w' hc r=>keep c w' ?_ r) (fun _ r=>r) fun _ _ r=>r
  rintro rfl
  rcases hc with hc|hc
  ·rw [<- hc,I.free] at q;cases q
  ·rw [I.free] at hc;cases hc
theorem pB:∀{bs:List Bool} {us:List Value},bY (bs.map V.bl) us->LSm.BoolsAre us bs
 | [],_,.nil=>.nil
 | b::bs,_,.cons e r=>by
  cases (show _=Value.bool b from e)
  exact .cons b (pB r)
theorem tH (hc:X.calm=true):eF X (.builtin "all") (fun xs H Q=>∃(a:Addr) (bs:List Bool),xs=[.ref a]/\SqL X.K H a (bs.map V.bl)/\Q (.bl (bs.all id)) H):=by
 intro pins s σ H xs us Q I r h
 obtain⟨a,bs,rfl,hq,q⟩:=h
 obtain⟨u,rfl,rx⟩:=gY r
 cases rx
 obtain⟨its,r',pl,hz⟩:=I.list hq
 obtain⟨m,F⟩:=I.fr
 exact LSm.all_bools F sM (I.ok.hd hc) pl.isList (pB r') fun h' tk F' N'=>⟨.bl _,H,I.byNews F.ns F' N',rfl,q⟩
theorem cP.get {P:Program} {w:World} {H:Hp} {h:Heap} {a:Addr} {o:HO} (x:cP P w H h a o):∃u,h.get? a=some u:=by
 cases o with
 | lst xs=>obtain⟨_,_,_,_,e⟩:=x;exact⟨_,e⟩
 | tup xs=>obtain⟨_,_,_,o,e,_⟩:=x;exact⟨_,e⟩
 | dK kvs=>obtain⟨_,_,_,_,o,_,_,e,_⟩:=x;exact⟨_,e⟩
 | dT kvs=>obtain⟨_,_,_,_,o,_,_,e,_⟩:=x;exact⟨_,e⟩
 | set S n=>obtain⟨o,_,_,_,e,_⟩:=x;exact⟨_,e⟩
 | ins C dx fs=>obtain⟨_,_,_,e,_⟩:=x;exact⟨_,e⟩
 | own y=>obtain⟨_,e⟩:=x;exact⟨_,e⟩
 | xd fs=>obtain⟨_,⟨_,_,_,e,_⟩,_⟩:=x;exact⟨_,e⟩
 | rng lo hi=>obtain⟨_,_,_,e⟩:=x;exact⟨_,e⟩
 | frz ob u=>obtain⟨e,_⟩:=x;exact⟨_,e⟩
 | tbl ps=>exact⟨_,show h.get? a=some _ from x⟩
 | met f y=>exact⟨_,show h.get? a=some _ from x⟩
 | ext φ=>obtain⟨_,⟨_,e⟩,_⟩:=x;exact⟨_,e⟩
theorem Inv.byNewsL {pins:List (Addr × Obj)} {σ:St} {H:Hp} {s:Shared} {h':Heap} {tk:Nat} {m:Str->Option Value} {D:Addr} {zs:List V} (I:Inv X pins σ H s) (hn:s.heap.Ns X.env.locals m) (hns:h'.Ns X.env.locals m)
  (keep:∀b o,b≠X.env.locals->s.heap.get? b=some o->h'.get? b=some o) (hD:s.heap.get? D=none) (hl:zs.length<=sizeLine) {its:List Value} {n:Nat} (rv:bY zs its) (at_:h'.get? D=some { cls:=.type "list",data:=.seq its.toArray n }):
  H D=none/\Inv X pins σ (upd H D (.lst zs)) { s with heap:=h',toks:=tk }:=by
 have hH:H D=none:=by
  cases z:H D with
  | none=>rfl
  | some o=>
   obtain⟨u,e⟩:=(I.hok D o z).get
   rw [hD] at e;cases e
 refine⟨hH,?_⟩
 have ne:∀b o,s.heap.get? b=some o->b≠D:=fun b o e z=>by
  rw [z,hD] at e;cases e
 have neH:∀b o,H b=some o->b≠D:=fun b o e z=>by
  rw [z,hH] at e;cases e
 refine I.step (g':=s.gens) (d':=s.drawn) (ch:=[]) (fun _ z=>nomatch z) (fun b o hb _ _ e _=>keep b o hb e) (fun b o hb _ _ e _=>⟨o.slots,keep b o hb e⟩) (fun b o _ e n=>by rw [aP (ne b o e)];exact n) (fun b o _ e=>?_) (fun b xs e=>by rw [aP (neH b _ e)];exact e) (fun b o u e=>by rw [aP (neH b _ e)];exact e) (fun b ps e=>⟨#[],by rw [aP (neH b _ e)];simpa using e⟩) (fun m' hm=>?_) (fun b o q=>?_) I.bare
 ·by_cases hb:b=X.env.locals
  ·subst hb
   obtain⟨o',_,_,z,_⟩:=hns
   exact⟨o',z⟩
  ·exact⟨o,keep b o hb e⟩
 ·have:m'=m:=funext fun x=>hm.agree hn x
  subst this
  exact hns
 ·by_cases hb:b=D
  ·subst hb
   rw [aE] at q
   cases q
   exact⟨hl,its,n,rv,at_⟩
  ·rw [aP hb] at q
   refine(I.hok b o q).stay (fun c w' hc r=>keep c w' ?_ r) (fun c e=>by rw [aP (neH c _ e)];exact e) fun c xs e=>by rw [aP (neH c _ e)];exact e
   rintro rfl
   rcases hc with hc|hc
   ·rw [<- hc,I.free] at q;cases q
   ·rw [I.free] at hc;cases hc
theorem iJ:OpR X (compareOp .LtE) (fun x y H Q=>∃i j,x=.str i/\y=.str j/\Q (.bl (!decide (j.cps.toList<i.cps.toList))) H):=by
 intro pins s σ H x y v u Q I rx ry h
 obtain⟨i,j,rfl,rfl,q⟩:=h
 obtain⟨t,rfl⟩:=rx
 obtain⟨t',rfl⟩:=ry
 exact PySem.P.le_str ⟨.bl _,H,I,rfl,q⟩
theorem nU:∀{l:List (Str × Tok)},bY ((l.map (·.1)).map V.str) (strValues l)
 | []=>.nil
 | p::l=>.cons ⟨p.2,rfl⟩ nU
def rSplit:V->List V->Hp->VK->Prop:=fun x vs H Q=>∃z y,x=.str z/\vs=[.str y]/\(y.length == 0)=false/\z.length+2<=sizeLine/\∀l,H l=none->Q (.ref l) (upd H l (.lst ((Txt.split z y).map V.str)))
theorem gJ:MtM X "str.split" rSplit:=by
 intro pins s σ H x vs v us Q I rx rv h
 obtain⟨z,y,rfl,rfl,hy,hz,q⟩:=h
 obtain⟨t,rfl⟩:=rx
 obtain⟨u,rfl,t',rfl⟩:=rv.one
 obtain⟨m,F⟩:=I.fr
 refine splitN1 F sM hy (fun l h' k hl F' N'=>?_) hz
 have hD:s.heap.get? s.heap.objs.size=none:=by
  cases z:s.heap.get? s.heap.objs.size with
  | none=>rfl
  | some o=>exact absurd (Heap.lt_size z) (Nat.lt_irrefl _)
 have at_:=(N' _ (List.mem_cons_self ..)).1
 have keep:∀b ob,b≠X.env.locals->s.heap.get? b=some ob->h'.get? b=some ob:=fun b ob hb e=>by
  cases z:X.base.get? b with
  | some o'=>
   have:=I.bk b o' z
   rw [e] at this
   cases this
   exact F'.keep b ob z
  | none=>exact(N' (b,ob) (List.mem_cons_of_mem _ (kO hb z e))).1
 have rv:bY ((Txt.split z y).map V.str) (strValues l):=by
  rw [<- hl]
  exact nU
 have ll:(Txt.split z y).length<=z.length+2:=by
  have:=len_le_of_split hl
  rw [<- hl,List.length_map]
  exact this
 obtain⟨z1,I1⟩:=I.byNewsL (tk:=k) (zs:=(Txt.split z y).map V.str) F.ns F'.ns keep hD (by rw [List.length_map];omega) rv at_
 exact⟨.ref _,_,I1,rfl,q _ z1⟩
end
section
variable {prog:Program} {w:World} {A:Around} {E:Value->Shared->Prop} {s:Shared}
theorem tN {α:Type} {M:Model} {c:Prop} [Decidable c] {a b:Sem α} {Q:α->Shared->Prop} (h1:c->wpAny M A a Q E s) (h2:¬ c->wpAny M A b Q E s):wpAny M A (if c then a else b) Q E s:=by
 split
 ·exact h1 ‹_›
 ·exact h2 ‹_›
theorem uY {it t:Addr} {i:Nat} {items:Array Value} {x:Value} {Q:Value->Shared->Prop} (hit:IsTupIter s.heap it t i) (ht:IsTup s.heap t items) (hx:items[i]?=some x)
  (hQ:∀h',IsTupIter h' it t (i+1)->Heap.SameBut it s.heap h'->Q x { s with heap:=h' }):wpAny (model prog w) A (Builtin.SmallTypes.nextOf (.ref it)) Q E s:=by
 obtain⟨o,ho,hc,hd⟩:=id hit
 obtain⟨ol,hol,hcl,nl,hdl⟩:=id ht
 unfold Builtin.SmallTypes.nextOf
 refine wpAny_bind (wpAny_callSpecial?_slot hit.typeIs slot_tupleiter_next (wpAny_call_entry slot_tupleiter_next hit.typeIs entry_tupleiter_next ?_ (args_tupleiter_next _)))
 show wpAny _ _ (field (Value.ref it) 0 >>= _) _ _ _
 refine wpAny_bind (wpAny_field ho hd (x:=.ref t) rfl ?_)
 refine wpAny_ite_false (by rfl) ?_
 refine wpAny_bind (wpAny_field ho hd (x:=.int i 0) rfl ?_)
 refine wpAny_bind (wpAny_seqItems hol hdl ?_)
 show wpAny _ _ (match items[((i:Int)).toNat]? with|some x=>_|none=>_) _ _ _
 rw [Int.toNat_natCast,hx]
 refine wpAny_bind (wpAny_setField ho hd (by simp) ?_)
 refine wpAny_pure ⟨x,rfl,wpAny_pure (hQ _ ⟨_,Heap.get?_update_self _ ho (Obj.isFreed_of_fields (Obj.data_mapFields hd _)),(Obj.cls_mapFields o _).trans hc,?_⟩ (Heap.SameBut.update s.heap it _))⟩
 rw [Obj.data_mapFields hd]
 simp [rawInt]
theorem iB {it t:Addr} {i:Nat} {items:Array Value} {Q:Value->Shared->Prop} (hh:A.handled=none) (hit:IsTupIter s.heap it t i) (ht:IsTup s.heap t items) (hx:items[i]?=none)
  (hE:∀h' e,Heap.ExtBut it s.heap h'->(∃o,h'.get? e=some o/\o.cls=Value.type "StopIteration")->E (.ref e) { s with heap:=h' }):wpAny (model prog w) A (Builtin.SmallTypes.nextOf (.ref it)) Q E s:=by
 obtain⟨o,ho,hc,hd⟩:=id hit
 obtain⟨ol,hol,hcl,nl,hdl⟩:=id ht
 unfold Builtin.SmallTypes.nextOf
 refine wpAny_bind (wpAny_callSpecial?_slot hit.typeIs slot_tupleiter_next (wpAny_call_entry slot_tupleiter_next hit.typeIs entry_tupleiter_next ?_ (args_tupleiter_next _)))
 show wpAny _ _ (field (Value.ref it) 0 >>= _) _ _ _
 refine wpAny_bind (wpAny_field ho hd (x:=.ref t) rfl ?_)
 refine wpAny_ite_false (by rfl) ?_
 refine wpAny_bind (wpAny_field ho hd (x:=.int i 0) rfl ?_)
 refine wpAny_bind (wpAny_seqItems hol hdl ?_)
 show wpAny _ _ (match items[((i:Int)).toNat]? with|some x=>_|none=>_) _ _ _
 rw [Int.toNat_natCast,hx]
 refine wpAny_bind (wpAny_rule ?_)
 refine wpAny_bind (wpAny_setField ho hd (by simp) ?_)
 unfold Builtin.SmallTypes.stopIteration
 refine wpAny_bind ?_
 unfold newExc
 refine wpAny_bind (wpAny_newTuple ?_ (Nat.zero_le _))
 refine wpAny_bind (wpAny_of_eq rfl ?_)
 refine wpAny_newObj_type ?_ (sizeOk_excFields _ _ _ _ _ _ _ _)
 unfold raiseNew
 refine wpAny_bind (wpAny_handled ?_)
 rw [show A.in1.handled=none from hh]
 refine wpAny_throw ?_
 refine hE _ _ (fun b ob hb e=>?_) ⟨_,Heap.get?_push_size _ rfl,rfl⟩
 refine Heap.get?_push_of_some _ (Heap.get?_push_of_some _ ?_)
 rw [Heap.get?_update_ne _ _ _ _ hb]
 exact e
theorem xX {it t:Addr} {items:Array Value} (hh:A.handled=none) (ne:t≠it):Draws prog w A it [it,t] items.size (fun i v=>items[i]?=some v) (fun i h=>IsTupIter h it t i/\IsTup h t items) where
 live:=fun i h ⟨⟨o,ho,_⟩,_⟩=>⟨o,ho⟩
 frame:=fun i h h' ⟨⟨o,ho,r⟩,⟨o',ho',r'⟩⟩ k=>⟨⟨o,k it (by simp) o ho,r⟩,⟨o',k t (by simp) o' ho',r'⟩⟩
 item:=fun i s Q E hi st h=>uY st.1 st.2 (Array.getElem?_eq_getElem hi) fun h' hit' sb=>h _ h' s.toks (Array.getElem?_eq_getElem hi) ⟨hit',by
  obtain⟨o',ho',r'⟩:=st.2
  exact⟨o',(sb.2 t ne).trans ho',r'⟩⟩ sb
 done:=fun s Q E st h=>iB hh st.1 st.2 (by simp) h
theorem xM {e it:Addr} {fp:List Addr} {n j:Nat} {i:Int} {P:Nat->Value->Prop} {St:Nat->Heap->Prop} {old:Value} {Q:Option Value->Shared->Prop} (D:Draws prog w A.in1 it fp n P St) (he:IsEnum s.heap e it i old) (hst:St j s.heap) (hlt:j<n) (hne:e≠it) (hef:e ∉ fp)
  (hQ:∀x h' tk,P j x->IsEnumOut h' e it (i+1) x s.heap.objs.size->St (j+1) h'->h'.get? s.heap.objs.size=some { cls:=Value.type "tuple",data:=Data.seq #[Value.int i tk,x] }->h'.objs.size=s.heap.objs.size+1 ->
   (∀b o,b≠e->b≠it->s.heap.get? b=some o->h'.get? b=some o)->Q (some (.ref s.heap.objs.size)) { s with heap:=h',toks:=tk+1 }):wpAny (model prog w) A (pyNext (.ref e)) Q E s:=by
 have hT:s.TypeIs (.ref e) "enumerate":=⟨_,he,rfl⟩
 show wpAny _ _ (_ >>= _) _ _ _
 refine wpAny_bind (wpAny_attempt (wpAny_callSpecial?_slot hT F.slot_enumerate_next (wpAny_call_entry F.slot_enumerate_next hT F.entry_enumerate_next ?_ (F.args_enumerate_next_1 _))))
 unfold Builtin.«enumerate.__next__»
 refine wpAny_bind (wpAny_of_eq (a:=(Value.ref e,[])) (by rfl) ?_)
 refine wpAny_bind (wpAny_field he rfl rfl ?_)
 refine wpAny_bind (D.item j s _ _ hlt hst fun x h1 tk hx st1 sb1=>?_)
 have he1:=(sb1.2 e hne).trans he
 refine wpAny_bind (wpAny_field he1 rfl rfl ?_)
 refine wpAny_bind (wpAny_field he1 rfl rfl ?_)
 refine wpAny_ite_true (by rfl) ?_
 refine wpAny_bind (wpAny_mkInt ?_)
 refine wpAny_bind (wpAny_setField_rec he1 (by simp) fun h2 he2 sb2=>?_)
 refine wpAny_bind (wpAny_setField_rec he2 (by simp) fun h3 he3 sb3=>?_)
 refine wpAny_bind (wpAny_newTuple ?_ (by show 2<=sizeLine;decide))
 have he4:(h3.push { cls:=Value.type "tuple",data:=Data.seq #[Value.int i tk,x] }).get? e=some { cls:=Value.type "enumerate",data:=Data.fields #[Value.none,Value.bool false,Value.ref it,rawInt (i+1),Value.none,old] }:=Heap.get?_push_of_some _ he3
 unfold Builtin.SmallTypes.ownedTupleIsFree
 refine wpAny_bind (wpAny_bind (wpAny_field he4 rfl rfl (wpAny_pure ?_)))
 refine wpAny_ite_true (by rfl) ?_
 refine wpAny_bind (wpAny_rule ?_)
 refine wpAny_bind (wpAny_field he4 rfl rfl ?_)
 refine wpAny_bind (wpAny_setField_rec he4 (by simp) fun h5 he5 sb5=>?_)
 unfold Builtin.SmallTypes.ownedTupleHandOut
 refine wpAny_bind (wpAny_bind (wpAny_setField_rec he5 (by simp) fun h6 he6 sb6=>?_))
 refine wpAny_setField_rec he6 (by simp) fun h7 he7 sb7=>?_
 refine wpAny_bind (wpAny_letGo ?_)
 have sz3:h3.objs.size=s.heap.objs.size:=sb3.1.trans (sb2.1.trans sb1.1)
 have sz4:(h3.push { cls:=Value.type "tuple",data:=Data.seq #[Value.int i tk,x] }).objs.size=s.heap.objs.size+1:=by rw [Heap.size_push,sz3]
 have sz7:h7.objs.size=s.heap.objs.size+1:=sb7.1.trans (sb6.1.trans (sb5.1.trans sz4))
 have el:e<s.heap.objs.size:=Heap.lt_size he
 have old7:∀b o,b≠e->(h3.push { cls:=Value.type "tuple",data:=Data.seq #[Value.int i tk,x] }).get? b=some o->h7.get? b=some o:=fun b o hb z=>(sb7.2 b hb).trans ((sb6.2 b hb).trans ((sb5.2 b hb).trans z))
 have k1:∀b o,b≠e->h1.get? b=some o->h7.get? b=some o:=fun b o hb z=>old7 b o hb (Heap.get?_push_of_some _ ((sb3.2 b hb).trans ((sb2.2 b hb).trans z)))
 refine wpAny_pure ⟨_,rfl,?_⟩
 show wpAny _ _ (pure (some (Value.ref h3.objs.size))) _ _ _
 refine wpAny_pure ?_
 rw [sz3]
 have he7':h7.get? e=some { cls:=Value.type "enumerate",data:=Data.fields #[rawInt (h3.objs.size:Nat),Value.bool false,Value.ref it,rawInt (i+1),Value.none,x] }:=he7
 rw [sz3] at he7'
 refine hQ x h7 tk hx he7' (D.frame (j+1) h1 h7 st1 fun b hb o z=>k1 b o (fun q=>hef (q ▸ hb)) z) ?_ sz7 fun b o hb hb' z=>k1 b o hb ((sb1.2 b hb').trans z)
 refine old7 _ _ (Nat.ne_of_gt el) ?_
 rw [<- sz3]
 exact Heap.get?_push_size _ rfl
theorem nO {e it t:Addr} {j:Nat} {i:Int} {items:Array Value} {old:Value} {Q:Option Value->Shared->Prop} (hh:A.handled=none) (he:IsEnum s.heap e it i old) (hit:IsTupIter s.heap it t j) (ht:IsTup s.heap t items) (hx:items[j]?=none)
  (hQ:∀h',Heap.ExtBut it s.heap h'->Q none { s with heap:=h' }):wpAny (model prog w) A (pyNext (.ref e)) Q E s:=by
 have hT:s.TypeIs (.ref e) "enumerate":=⟨_,he,rfl⟩
 show wpAny _ _ (_ >>= _) _ _ _
 refine wpAny_bind (wpAny_attempt (wpAny_callSpecial?_slot hT F.slot_enumerate_next (wpAny_call_entry F.slot_enumerate_next hT F.entry_enumerate_next ?_ (F.args_enumerate_next_1 _))))
 unfold Builtin.«enumerate.__next__»
 refine wpAny_bind (wpAny_of_eq (a:=(Value.ref e,[])) (by rfl) ?_)
 refine wpAny_bind (wpAny_field he rfl rfl ?_)
 exact wpAny_bind (iB hh hit ht hx fun h' x he' ⟨o,ho,hc⟩=>wpAny_bind (wpAny_isInstance ⟨o,ho,hc⟩ isSubtype_stop (wpAny_pure (hQ h' he'))))
end
section
variable {X:Cx}
theorem Inv.turnedL {pins:List (Addr × Obj)} {σ:St} {H:Hp} {s:Shared} {h':Heap} {tk:Nat} {ch:List Addr} {T:Addr} {zs:List V} (I:Inv X pins σ H s) (hf:∀b ∈ ch,gF X pins H b) (k:∀b o,b ∉ ch->s.heap.get? b=some o->h'.get? b=some o)
  (hT:s.heap.objs.size<=T) (new:cP X.prog X.w (upd H T (.tup zs)) h' T (.tup zs)):Inv X pins σ (upd H T (.tup zs)) { s with heap:=h',toks:=tk }:=by
 have hH:H T=none:=I.hok.fresh hT
 have ne:∀b o,s.heap.get? b=some o->b≠T:=fun b o e z=>by
  have:=Heap.lt_size e
  rw [z] at this
  exact absurd (Nat.lt_of_lt_of_le this hT) (Nat.lt_irrefl _)
 have neH:∀b o,H b=some o->b≠T:=fun b o e z=>by
  rw [z,hH] at e;cases e
 have lch:X.env.locals ∉ ch:=fun z=>(hf _ z).2.1 rfl
 refine I.step (g':=s.gens) (d':=s.drawn) (ch:=ch) (fun b hb=>⟨(hf b hb).2.2.2.1,(hf b hb).2.1,(hf b hb).2.2.2.2.1,(hf b hb).2.2.2.2.2⟩) (fun b o _ _ hc e _=>k b o hc e) (fun b o _ _ hc e _=>⟨o.slots,k b o hc e⟩) (fun b o _ e n=>by rw [aP (ne b o e)];exact n) (fun b o hc e=>⟨o,k b o hc e⟩) (fun b xs e=>by rw [aP (neH b _ e)];exact e) (fun b o u e=>by rw [aP (neH b _ e)];exact e) (fun b ps e=>⟨#[],by rw [aP (neH b _ e)];simpa using e⟩) (fun m' hm=>?_) (fun b o q=>?_) I.bare
 ·obtain⟨o,es,ep,z,r⟩:=hm
  exact⟨o,es,ep,k _ _ lch z,r⟩
 ·by_cases hb:b=T
  ·subst hb
   rw [aE] at q
   cases q
   exact new
  ·rw [aP hb] at q
   refine(I.hok b o q).stay (fun c w' hc r=>k c w' ?_ r) (fun c e=>by rw [aP (neH c _ e)];exact e) fun c xs e=>by rw [aP (neH c _ e)];exact e
   intro z
   rcases hc with hc|hc
   ·rw [<- hc,(hf c z).1] at q;cases q
   ·rw [(hf c z).1] at hc;cases hc
theorem Inv.turnedN {pins:List (Addr × Obj)} {σ:St} {H:Hp} {s:Shared} {h':Heap} {tk:Nat} {ch:List Addr} (I:Inv X pins σ H s) (hf:∀b ∈ ch,gF X pins H b) (k:∀b o,b ∉ ch->s.heap.get? b=some o->h'.get? b=some o):Inv X pins σ H { s with heap:=h',toks:=tk }:=by
 have lch:X.env.locals ∉ ch:=fun z=>(hf _ z).2.1 rfl
 refine I.step (g':=s.gens) (d':=s.drawn) (ch:=ch) (fun b hb=>⟨(hf b hb).2.2.2.1,(hf b hb).2.1,(hf b hb).2.2.2.2.1,(hf b hb).2.2.2.2.2⟩) (fun b o _ _ hc e _=>k b o hc e) (fun b o _ _ hc e _=>⟨o.slots,k b o hc e⟩) (fun b o _ e n=>n) (fun b o hc e=>⟨o,k b o hc e⟩) (fun b xs e=>e) (fun b o u e=>e) (fun b ps e=>⟨#[],by simpa using e⟩) (fun m' hm=>?_) (fun b o q=>?_) I.bare
 ·obtain⟨o,es,ep,z,r⟩:=hm
  exact⟨o,es,ep,k _ _ lch z,r⟩
 ·refine(I.hok b o q).stay (fun c w' hc r=>k c w' ?_ r) (fun c e=>e) fun c xs e=>e
  intro z
  rcases hc with hc|hc
  ·rw [<- hc,(hf c z).1] at q;cases q
  ·rw [(hf c z).1] at hc;cases hc
def Ite (K:PySem.W.Frag) (t:Addr) (dD:Int):It:=
 ⟨fun i H=>∃xs x,SqT K H t xs/\xs[i]?=some x,fun i H x H'=>∃T v,H T=none/\x=.ref T/\H'=upd H T (.tup [.int (dD+i),v])/\∀xs,SqT K H t xs->xs[i]?=some v,fun i H=>∃xs,SqT K H t xs/\xs.length<=i⟩
theorem wZ {P:Program} {hd0:Option Value} {w:World} {K:PySem.W.Frag} {elts:List Expr} {k1:Nat} {pos:Pos} {t e it:Addr} {dD:Int} (hne:e≠it) (e0:hd0=none):tL P w K hd0 (.Tuple elts k1 pos) (Ite K t dD) [e,it] e (fun i h=>(∃old,IsEnum h e it (dD+i) old)/\IsTupIter h it t i) where
 mem:=by simp
 obj:=fun i h ⟨⟨old,he⟩,⟨o,ho,_,hd⟩⟩ b hb=>by
  rcases List.mem_cons.mp hb with rfl|hb
  ·exact⟨_,he,fun v z=>by cases z⟩
  ·have e1:b=it:=by simpa using hb
   subst e1
   exact⟨o,ho,fun v z=>by rw [hd] at z;cases z⟩
 keep:=fun i h h' ⟨⟨old,he⟩,⟨o,ho,r⟩⟩ k=>⟨⟨old,k e (by simp) _ he⟩,⟨o,k it (by simp) o ho,r⟩⟩
 item:=by
  intro X hP hw hK hc i pins s σ H E I hf st hg
  subst hP hw hK
  obtain⟨xs,x,hq,hx⟩:=hg
  obtain⟨its,rv,p,hz⟩:=I.tuple hq
  obtain⟨u,hu,ru⟩:=rv.get hx
  obtain⟨⟨old,he⟩,hit⟩:=st
  have hts:t≠it:=fun z=>by
   obtain⟨o1,z1,z2,_⟩:=hit
   obtain⟨o2,y1,y2,_⟩:=p
   rw [z,z1] at y1
   cases y1
   rw [z2] at y2
   injection y2 with y2
   exact absurd y2 (by decide)
  have hte:t≠e:=fun z=>by
   obtain⟨o2,y1,y2,_⟩:=p
   rw [z,he] at y1
   cases y1
   injection y2 with y2
   exact absurd y2 (by decide)
  have D:Draws X.prog X.w X.A.in1 it [it,t] its.toArray.size (fun i v=>its.toArray[i]?=some v) (fun i h=>IsTupIter h it t i/\IsTup h t its.toArray):=xX (hc.trans e0) hts
  have hlt:i<its.toArray.size:=by
   have:=(List.getElem?_eq_some_iff.mp hu).1
   simpa using this
  refine xM D he ⟨hit,p⟩ hlt hne (by simp [hne,hte.symm]) fun y h1 tk hy ho st1 hT hz1 kp=>⟨_,rfl,?_⟩
  have ey:y=u:=by
   have:its.toArray[i]?=some u:=by simpa using hu
   exact Option.some.inj (hy.symm.trans this)
  subst ey
  refine wpAny_letOwnedTupleGo_enum ho fun h2 he2 sb2=>?_
  have Tne:s.heap.objs.size≠e:=Nat.ne_of_gt (Heap.lt_size he)
  have T2:h2.get? s.heap.objs.size=some { cls:=Value.type "tuple",data:=Data.seq #[Value.int (dD+i) tk,y] }:=(sb2.2 _ Tne).trans hT
  have k2:∀b o,b ∉ [e,it]->s.heap.get? b=some o->h2.get? b=some o:=fun b o hb z=>by
   have h1':b≠e:=fun q=>hb (by simp [q])
   have h2':b≠it:=fun q=>hb (by simp [q])
   exact(sb2.2 b h1').trans (kp b o h1' h2' z)
  refine⟨.ref s.heap.objs.size,upd H s.heap.objs.size (.tup [.int (dD+i),x]),I.turnedL hf k2 (Nat.le_refl _) ⟨by show 2<=sizeLine;decide,[Value.int (dD+i) tk,y],.cons ⟨_,rfl⟩ (.cons ru .nil),⟨_,T2,rfl,_,rfl⟩⟩,rfl,⟨_,x,I.hok.fresh (Nat.le_refl _),rfl,rfl,fun ys hy'=>by rw [I.tuple_inj hy' hq];exact hx⟩,⟨⟨y,?_⟩,?_⟩,fun b hb=>?_⟩
  ·rw [show dD+((i+1:Nat):Int)=dD+i+1 by omega]
   exact he2
  ·obtain⟨o,z,r⟩:=st1.1
   exact⟨o,(sb2.2 it hne.symm).trans z,r⟩
  ·have lb:b<s.heap.objs.size:=by
    rcases List.mem_cons.mp hb with rfl|hb
    ·exact Heap.lt_size he
    ·have e1:b=it:=by simpa using hb
     subst e1
     obtain⟨o,z,_⟩:=hit
     exact Heap.lt_size z
   rw [aP (Nat.ne_of_lt lb)]
   exact(hf b hb).1
 done:=by
  intro X hP hw hK hc i pins s σ H E I hf st hg
  subst hP hw hK
  obtain⟨xs,hq,hx⟩:=hg
  obtain⟨its,rv,p,hz⟩:=I.tuple hq
  obtain⟨⟨old,he⟩,hit⟩:=st
  have hl:=rv.length
  exact nO (hc.trans e0) he hit p (by simp;omega) fun h' eb=>⟨rfl,I.turnedN (tk:=s.toks) hf fun b o hb z=>eb b o (fun q=>hb (by simp [q])) z⟩
 self:=fun _ _ _ _ _ ⟨⟨old,he⟩,_⟩ h=>wpAny_pyIter_enum he h
end
end L2
namespace L2
open PySem PySem.Spec PyProof.Rows
section
variable {X:Cx}
def rInD (K:PySem.W.Frag):R2:=fun x y H Q=>∃dx dys,RdV K H x dx/\RdV K H y (.list dys)/\dx.canLay0=true/\PyData.canLayAll0 dys=true/\dx.depth<=60/\Q (.bl (dys.any fun z=>PyData.eqv z dx)) H
theorem op_inD (hu:X.A.units+64<cLine):OpR X (compareOp .In) (rInD X.K):=by
 intro pins s σ H x y v u Q I rx ry h
 obtain⟨dx,dys,hx,hy,cx,cy,dd,q⟩:=h
 obtain⟨as,ra⟩:=hx.reads I rx
 obtain⟨bs,rb⟩:=hy.reads I ry
 have hm:min (PyData.depthAll dys) dx.depth<=dx.depth:=Nat.min_le_right _ _
 exact SeqAt.in_list_reads rb ra cy cx (by omega) ⟨.bl _,H,I,rfl,q⟩
end
section
variable {X:Cx} {NB:List Str} {n:Nat} {js:List Nat} {scope:Scope} {cl:List (Str × Addr)}
theorem vW {elt tg iter:Expr} {ifs:List Expr} {pos spos py:Pos} {y:Str} {ix:Nat} {wi:TI} {g:TG} {tc:TT} {te:TE} (hN:X.N.Nodup) (hiy:X.N[ix]?=some y) (hxy:Loc X.env.scope y) (hk:scope.kind=.function) (hcell:∀x ∈ scope.names,x.2≠.cell)
  (hnames:∀x ∈ scope.names,x.2=.local->scope.names.lookup x.1=some .local) (_:(0:Nat)=0) (T:dZ X NB n js scope cl) (hi:PI X tg iter wi)
  (hg:∀C s H fp pn,PG (X.blkF NB scope cl C s H fp pn) tg g) (ht:∀C s H fp pn,PTs (X.blkF NB scope cl C s H fp pn) ifs tc) (he:∀C s H fp pn,PE (X.blkF NB scope cl C s H fp pn) elt te)
  (hsw:swapsWith (.ListComp elt [⟨tg,iter,ifs,0⟩] scope pos) (some (.Name y py)) spos.line X.env=pure true:=by rfl)
  (hf:X.fn y=true\/X.env.scope.names.lookup y=some .local:=by first|exact .inl rfl|exact .inr rfl|assumption)
  (hs:∀x,foldedSetIterable iter X.env x=pure x:=by intro _;rfl):PS X (.Assign [.Name y py] (.ListComp elt [⟨tg,iter,ifs,0⟩] scope pos) spos) (tAsg (tV n js wi g tc te) (dS ix)):=by
 intro pins s σ H D I h
 rw [exec_Assign_Name_used _ _ _ _ hsw]
 refine wpAny_bind (wpAny_standAt (wpAny_bind ?_))
 show wpAny _ X.A (do let _ <- comprehension (.ListComp elt [⟨tg,iter,ifs,0⟩] scope pos) scope X.env _ (newList []) false (eval iter X.env) (some (assign (.Name y py) X.env))) _ _ s
 refine wpAny_bind (wpAny_mono (wpAny_comprehension_free (use:=some (assign (.Name y py) X.env)) (Q:=fun _ s'=>SP X pins D .next s') rfl hs T.clo hk hnames (thn (hi s σ H _ I h) fun v s1 h1=>thn h1 fun itv s2 h2=>?_)) (fun _ s' hq=>wpAny_pure (wpAny_pure hq)) fun _ _ e=>e)
 obtain⟨it,fp,tn,J,H2,rfl,I2,U,st2,f2,h2⟩:=h2
 have lt2:∀b ∈ fp,b<s2.heap.objs.size:=fun b hb=>by
  obtain⟨o,q,_⟩:=U.obj 0 _ st2 b hb
  exact Heap.lt_size q
 refine wpAny_newObj_type ?_
 have hz:H2 s2.heap.objs.size=none:=I2.hok.fresh (Nat.le_refl _)
 obtain⟨W,⟨m0,w0⟩,turn⟩:=h2 s2.heap.objs.size hz
 have I3:Inv X pins σ (upd H2 s2.heap.objs.size (.lst [])) { s2 with heap:=s2.heap.push { cls:=.type "list",dict:=none,data:=.seq ([]:List Value).toArray } }:=
  I2.laid (t':=s2.toks) (fun b o q=>Heap.get?_push_of_some _ q) (Nat.le_refl _) ⟨Nat.zero_le _,[],0,.nil,Heap.get?_push_size _ rfl⟩
 generalize hs3:({ s2 with heap:=s2.heap.push { cls:=.type "list",dict:=none,data:=.seq ([]:List Value).toArray } }:Shared)=s3 at I3 ⊢
 have ups3:∀b o,s2.heap.get? b=some o->s3.heap.get? b=some o:=fun b o q=>by rw [<- hs3];exact Heap.get?_push_of_some _ q
 have f3:∀b ∈ fp,gF X pins (upd H2 s2.heap.objs.size (.lst [])) b:=fun b hb=>⟨by rw [aP (Nat.ne_of_lt (lt2 b hb))];exact(f2 b hb).1,(f2 b hb).2⟩
 have lt3:∀b ∈ fp,b<s3.heap.objs.size:=fun b hb=>by
  obtain⟨o,q,_⟩:=U.obj 0 _ st2 b hb
  exact Heap.lt_size (ups3 b o q)
 refine wpAny_newFunctionEnv hcell (by intro y hy;simp at hy) (fun h4 hn4 hs4=>?_) hk
 have keep4:∀b o,s3.heap.get? b=some o->h4.get? b=some o:=fun b o q=>(hs4.2 b (Nat.ne_of_lt (Heap.lt_size q))).trans (Heap.get?_push_of_some _ q)
 have I4:=nI (tk:=s3.toks+([]:List (Str × Value)).length) I3 hk T f3 lt3 hn4 keep4
 have st4:tn 0 h4:=U.keep _ _ _ st2 fun b hb o q=>keep4 b o (ups3 b o q)
 have fpY:∀{H':Hp},(∀b ∈ fp,H' b=none)->∀b ∈ fp,gF (X.blkF NB scope cl s3.heap.objs.size s3 (upd H2 s2.heap.objs.size (.lst [])) fp (X.pn++pins)) [] H' b:=fun hn b hb=>by
  obtain⟨g0,g1,g2,g3,g4,g5⟩:=f3 b hb
  exact⟨hn b hb,Nat.ne_of_lt (lt3 b hb),fun z=>(List.mem_cons.mp (I3.stkSub b z)).elim g1 g2,.inl hb,fun x c q=>g4 x c (T.sub x c q),fun p hp=>g5 p (by simpa using hp)⟩
 have loop:∀s5:Shared,s5={ s3 with heap:=h4,toks:=s3.toks+([]:List (Str × Value)).length }->codeAny (model X.prog X.w) X.A (.compLoop (.ListComp elt [⟨tg,iter,ifs,0⟩] scope pos) 0 (.ref it) (.ref s2.heap.objs.size) (compEnvC scope cl s3.heap.objs.size X.env))
   (compPost (model X.prog X.w) X.A X.xe (some (assign (.Name y py) X.env)) (fun _ s'=>SP X pins D .next s') (.ref s2.heap.objs.size) s3.heap.objs.size) s5:=by
  rintro s5 rfl
  refine codeAny_loop rfl (fun k s'=>∃i ys H',Inv (X.blkF NB scope cl s3.heap.objs.size s3 (upd H2 s2.heap.objs.size (.lst [])) fp (X.pn++pins)) [] (eY n js σ) H' s'/\tn i s'.heap/\(∀b ∈ fp,H' b=none)/\W i k ys H')
   (fun k s6 hI=>?_) m0 ⟨0,[],_,I4,st4,fun b hb=>(f3 b hb).1,w0⟩
  obtain⟨i,ys,H6,I6,st6,fr6,w6⟩:=hI
  show wpAny _ _ ((compTurn (.ListComp elt [⟨tg,iter,ifs,0⟩] scope pos) 0 (.ref it) (.ref s2.heap.objs.size) (compEnvC scope cl s3.heap.objs.size X.env)).onRaise (fun x=>do noteFrame x (compEnvC scope cl s3.heap.objs.size X.env);theTreesLotGoes x)) _ _ s6
  refine wpAny_noted ?_
  rw [compTurn_list]
  refine wpAny_bind (wpAny_standAt (wpAny_bind ?_))
  obtain⟨hacc,alt⟩:=turn i k ys H6 w6
  rcases alt with ⟨stop,q⟩|⟨go,step⟩
  ·refine thn (U.done (X.blkF NB scope cl s3.heap.objs.size s3 (upd H2 s2.heap.objs.size (.lst [])) fp (X.pn++pins)) rfl rfl rfl rfl i [] s6 _ H6 _ I6 (fpY fr6) st6 stop) fun r s7 ⟨hr,I7⟩=>?_
   subst hr
   obtain⟨m,hm,_⟩:=I7.loc
   have I7X:Inv X pins σ H6 s7:=iO (h2:=s7.heap) I3 f3 lt3 I7 ⟨rfl,fun _ _=>rfl⟩
   have H6C:H6 s3.heap.objs.size=none:=I7.free
   have fpC:=I3.fpOk (H':=H6) (Nat.le_refl _) H6C
   refine wpAny_pure ?_
   show wpAny _ _ (assign (.Name y py) X.env (.ref s2.heap.objs.size)) _ _ _
   refine wpAny_assign_Name (oA I7X hN hiy hxy (v:=.ref s2.heap.objs.size) rfl (fun s8 I8 hsame=>?_) hf)
   obtain⟨a,hsa,ha⟩:=hsame
   have neC:s3.heap.objs.size≠a:=by
    rcases ha with rfl|ha
    ·exact fpC.2.1
    ·exact fun z=>fpC.2.2.2.2.1 _ _ ha z.symm
   refine⟨m,hm.sameBut hsa neC,fun h9 hsb=>⟨_,H6,?_,q⟩⟩
   refine I8.call' (s':={ s8 with heap:=h9 }) (ch:=[s3.heap.objs.size]) rfl ⟨fun b o q n hb he=>(hsb.2 b (fun z=>he (by simp [z]))).trans q,fun b o q n hb he=>⟨o.slots,(hsb.2 b (fun z=>he (by simp [z]))).trans q⟩,fun _ _ _ n _=>n,fun b o q he=>⟨o,(hsb.2 b (fun z=>he (by simp [z]))).trans q⟩,fun _ _ q=>q,fun _ _ _ q=>q,fun _ ps q=>⟨#[],by rw [q];simp⟩⟩ (fun b o q=>?_) I8.bare fun b hb=>?_
   ·refine(I8.hok b o q).stay (fun c w' hc r=>(hsb.2 c ?_).trans r) (fun _ r=>r) fun _ _ r=>r
    rintro rfl
    rcases hc with rfl|hc
    ·rw [H6C] at q;cases q
    ·rw [H6C] at hc;cases hc
   ·have e:b=s3.heap.objs.size:=by simpa using hb
    subst e
    exact⟨fpC.2.2.2.1,fpC.2.1,fpC.2.2.2.2.1,fpC.2.2.2.2.2⟩
  ·refine thn (U.item (X.blkF NB scope cl s3.heap.objs.size s3 (upd H2 s2.heap.objs.size (.lst [])) fp (X.pn++pins)) rfl rfl rfl rfl i [] s6 _ H6 _ I6 (fpY fr6) st6 go) fun r s7 ⟨u,hr,h7⟩=>?_
   subst hr
   refine wpAny_bind (thn h7 fun _ s8 ⟨x,H8,I8,r8,y8,st8,fr8⟩=>?_)
   have I8':=I8.pinned (fpY fr8) (U.obj _ _ st8)
   have gp:∀{σ9:St} {H9:Hp} {s9:Shared},Inv (X.blkF NB scope cl s3.heap.objs.size s3 (upd H2 s2.heap.objs.size (.lst [])) fp (X.pn++pins)) ([]++dO fp s8.heap) σ9 H9 s9->tn (i+1) s9.heap/\∀b ∈ fp,H9 b=none:=fun I9=>
    ⟨U.keep _ _ _ st8 fun b hb o e=>(I9.pin (b,o) (List.mem_append_right _ (List.mem_append_right _ (cX hb e)))).1,fun b hb=>by
     obtain⟨o,e,d⟩:=U.obj _ _ st8 b hb
     exact(I9.pin (b,o) (List.mem_append_right _ (List.mem_append_right _ (cX hb e)))).2.1⟩
   have wk:∀{σ9:St} {H9:Hp} {s9:Shared},σ9.drop n=(eY n js σ).drop n->Inv (X.blkF NB scope cl s3.heap.objs.size s3 (upd H2 s2.heap.objs.size (.lst [])) fp (X.pn++pins)) ([]++dO fp s8.heap) σ9 H9 s9->Inv (X.blkF NB scope cl s3.heap.objs.size s3 (upd H2 s2.heap.objs.size (.lst [])) fp (X.pn++pins)) [] (eY n js σ) H9 s9:=fun {σ9 H9 s9} hd I9=>
    I9.unpinned.weak (by rw [iP T,I9.len]) fun k v z=>by
     obtain⟨k',j,rfl,_,_⟩:=jU z
     have e:=congrArg (fun l=>l[k']?) hd
     simp only [List.getElem?_drop] at e
     rw [e]
     exact z
   refine wpAny_bind (wpAny_mono (hg _ _ _ _ _ s8 _ H8 x u _ I8' r8 (step x H8 y8)) (fun _ s9 hq=>?_) fun _ _ z=>z.elim)
   obtain⟨σ9,H9,I9,hd9,q9⟩:=hq
   refine wpAny_bind (wpAny_mono (ht _ _ _ _ _ s9 σ9 H9 _ I9 q9) (fun ok s10 hq=>?_) fun _ _ z=>z.elim)
   obtain⟨H10,I10,q10⟩:=hq
   cases ok with
   | false=>
    rw [if_neg (by simp)] at q10
    obtain⟨m',hm',w10⟩:=q10
    exact wpAny_pure ⟨rfl,m',hm',i+1,ys,H10,wk hd9 I10,(gp I10).1,(gp I10).2,w10⟩
   | true=>
    rw [if_pos rfl] at q10
    refine wpAny_bind (wpAny_bind (wpAny_mono (he _ _ _ _ _ s10 σ9 H10 _ I10 q10) (fun y s11 hq=>?_) fun _ _ z=>z.elim))
    obtain⟨yv,H11,I11,ry,ha11,hl11,m',hm',w11⟩:=hq
    have mt:=gK (X:=X.blkF NB scope cl s3.heap.objs.size s3 (upd H2 s2.heap.objs.size (.lst [])) fp (X.pn++pins)) ([]++dO fp s8.heap) s11 σ9 H11 (.ref s2.heap.objs.size) [yv] (.ref s2.heap.objs.size) [y] (fun _ H'=>W (i+1) m' (ys++[yv]) H') I11 rfl (.cons ry .nil) ⟨_,ys,yv,rfl,rfl,ha11,hl11,w11⟩
    refine wpAny_bind (wpAny_mono mt (fun _ s12 hq=>?_) fun _ _ z=>z.elim)
    obtain⟨v12,H12,I12,_,w12⟩:=hq
    exact wpAny_pure (wpAny_pure ⟨rfl,m',hm',i+1,_,H12,wk hd9 I12,(gp I12).1,(gp I12).2,w12⟩)
 exact codeAny_compStart_list (loop _ rfl) (U.self _ 0 _ _ _ st4 (loop _ rfl))
end
end L2
namespace L2
open PySem PySem.Spec PyProof.Rows PySem.W
section
variable {X:Cx}
end
end L2
namespace L2
open PySem PySem.Spec PyProof.Rows PySem.W Builtin
section
variable {K:Frag} {x C:Addr} {prog:Program} {w:World} {A:Around} {E:Value->Shared->Prop} {s:Shared}
end
section
variable {X:Cx}
end
end L2
namespace L2
open PySem PySem.Spec PyProof.Rows PySem.W
section
variable {X:Cx}
end
section
variable {X:Cx} {tg:Expr}
end
section
variable {prog:Program} {w:World} {A:Around} {E:Value->Shared->Prop} {s:Shared}
end
theorem five_ne (n:Nat):n+4≠n+2/\n+4≠n+3/\n+4≠n/\n+4≠n+1/\n+2≠n+3/\n+2≠n/\n+2≠n+1/\n+3≠n/\n+3≠n+1/\n≠n+1:=by omega
theorem five_le (n b:Nat) (h:b=n+4\/b=n+2\/b=n+3\/b=n\/b=n+1):n<=b:=by omega
section
variable {X:Cx}
theorem AaX:bootBuiltins "zip"=some (.type "zip"):=by decide +kernel
end
section
variable {prog:Program} {w:World} {A:Around} {E:Value->Shared->Prop} {s:Shared}
end
section
variable {prog:Program} {w:World} {A:Around} {E:Value->Shared->Prop}
end
section
variable {X:Cx}
def rSlS:V->Option Int->Option Int->Hp->VK->Prop:=fun x lo hi H Q=>∃z,x=.str z/\z.length<=sizeLine/\Q (.str (Txt.slice z lo hi)) H
theorem lY:SlR X rSlS:=by
 intro pins s σ H x v vl vu lo hi sl Q I rx hs pl pu h
 obtain⟨z,rfl,hz,q⟩:=h
 obtain⟨t,rfl⟩:=rx
 refine⟨"str",_,F.slot_str_getitem.lookup,typeIs_str _ _ _,?_⟩
 have fin:∀t' k,EP X pins σ Q (.str (Txt.slice z lo hi) t') { s with toks:=k }:=fun t' k=>⟨.str _,H,I.tok _,⟨_,rfl⟩,q⟩
 have ln:(Txt.slice z lo hi).length<=sizeLine:=Nat.le_trans (Txt.slice_le z _ _) hz
 obtain⟨o,h1,h2,h3⟩:=hs
 cases pl with
 | none=>
  cases pu with
  | none=>exact wpAny_getItem_str_slice (l:=none) (u:=none) (st:=none) ⟨o,h1,h2,h3⟩ rfl (post_val_or_str ⟨ln,fin⟩)
  | int j u=>exact wpAny_getItem_str_slice (l:=none) (u:=some (j,u)) (st:=none) ⟨o,h1,h2,h3⟩ rfl (post_val_or_str ⟨ln,fin⟩)
 | int i u'=>
  cases pu with
  | none=>exact wpAny_getItem_str_slice (l:=some (i,u')) (u:=none) (st:=none) ⟨o,h1,h2,h3⟩ rfl (post_val_or_str ⟨ln,fin⟩)
  | int j u=>exact wpAny_getItem_str_slice (l:=some (i,u')) (u:=some (j,u)) (st:=none) ⟨o,h1,h2,h3⟩ rfl (post_val_or_str ⟨ln,fin⟩)
def rStarts:V->List V->Hp->VK->Prop:=fun x vs H Q=>∃z y,x=.str z/\vs=[.str y]/\Q (.bl (Txt.startswith z y)) H
theorem xN:MtM X "str.startswith" rStarts:=by
 intro pins s σ H x vs v us Q I rx rv h
 obtain⟨z,y,rfl,rfl,q⟩:=h
 obtain⟨t,rfl⟩:=rx
 obtain⟨u,rfl,t',rfl⟩:=rv.one
 exact call_meets F.slot_str_startswith (typeIs_str _ _ _) F.entry_str_startswith (F.args_str_startswith_2 _ _) (gives_str_startswith z y t t').meets ⟨.bl _,H,I,rfl,q⟩
def rIntT:List V->Hp->VK->Prop:=fun vs H Q=>∃x n,vs=[.str x]/\PySem.intText? x=some n/\x.length<=640/\Q (.int n) H
theorem pA:eF X (.type "int") rIntT:=by
 intro pins s σ H xs us Q I rv h
 obtain⟨x,n,rfl,hn,hl,q⟩:=h
 obtain⟨u,rfl,t,rfl⟩:=rv.one
 exact KIN.call_text hn hl ⟨.int _,H,I.tok _,⟨_,rfl⟩,q⟩
def Its (x:Str):It:=⟨fun i _=>i<x.length,fun i H v H'=>H'=H/\∃c,x.cps[i]?=some c/\v=.str ⟨#[c]⟩,fun i _=>x.length<=i⟩
theorem yG {P:Program} {hd0:Option Value} {w:World} {K:PySem.W.Frag} {tg:Expr} (x:Str) (t:Tok) (it:Addr) (e0:hd0=none):tL P w K hd0 tg (Its x) [it] it (fun i h=>h.IsStrIter it "str_ascii_iterator" x t i) where
 mem:=by simp
 obj:=fun i h st b hb=>by
  have e:b=it:=by simpa using hb
  subst e
  obtain⟨o,e,c,d⟩:=st
  exact⟨o,e,fun v z=>by rw [d] at z;cases z⟩
 keep:=fun i h h' st k=>by
  obtain⟨o,e,c,d⟩:=st
  exact⟨o,k it (by simp) o e,c,d⟩
 item:=by
  intro X hP hw hK hc i pins s σ H E I hf st hg
  subst hP hw hK
  have hi:i<x.cps.size:=hg
  obtain⟨f0,f1,f2,f3,f4,f5⟩:=hf it (by simp)
  refine wpAny_pyNext_ascii_item st (Array.getElem?_eq_getElem hi) fun h' st' sb=>?_
  have I1:Inv X pins σ H { s with heap:=h',toks:=s.toks+1 }:=I.turned (fun b o hb e=>(sb.2 b hb).trans e) f0 f1 f3 f4 f5
  obtain⟨oi,ei,ci,di⟩:=id st'
  exact⟨_,rfl,sW (s:={ s with heap:=h',toks:=s.toks+1 }) ei ci di (by decide) ⟨.str _,H,I1,⟨_,rfl⟩,⟨rfl,_,Array.getElem?_eq_getElem hi,rfl⟩,st',fun b hb=>(hf b hb).1⟩⟩
 done:=by
  intro X hP hw hK hc i pins s σ H E I hf st hg
  subst hP hw hK
  have hi:x.cps.size<=i:=hg
  obtain⟨f0,f1,f2,f3,f4,f5⟩:=hf it (by simp)
  exact wpAny_pyNext_ascii_end (hc.trans e0) st (Array.getElem?_eq_none hi) fun h' eb=>⟨rfl,I.turned (t':=s.toks) (fun b o hb e=>eb b o hb e) f0 f1 f3 f4 f5⟩
 self:=fun _ _ _ _ _ st h=>wpAny_pyIter_striter_ascii st h
def iStr (tl:TE):TI:=fun σ H R=>tl σ H fun v H1=>∃x,v=.str x/\x.cps.all (·<128)=true/\R (Its x) H1
theorem yV {tg l:Expr} {tl:TE} (hl:PE X l tl) (hc0:X.calm=true:=by rfl):PI X tg l (iStr tl):=by
 intro pins s σ H R I h
 refine thn (hl s σ H _ I h) fun v s1 ⟨y,H1,I1,r1,q1⟩=>?_
 obtain⟨x,rfl,ha,q⟩:=q1
 obtain⟨t,rfl⟩:=r1
 refine wpAny_pyIter_ascii ha ?_
 refine⟨s1.heap.objs.size,[s1.heap.objs.size],_,_,H1,rfl,I1.kept (t':=s1.toks) fun b o e=>Heap.get?_push_of_some _ e,yG x t _ (I.ok.hd hc0),⟨_,Heap.get?_push_size _ rfl,rfl,rfl⟩,fun b hb=>?_,q⟩
 have e:b=s1.heap.objs.size:=by simpa using hb
 subst e
 exact I1.fpOk (Nat.le_refl _) (I1.hok.fresh (Nat.le_refl _))
def Itr2 (n:Nat):It:=⟨fun i _=>i<n,fun i H x H'=>H'=H/\x=.int (2 * (i:Int)),fun i _=>n<=i⟩
theorem rG {P:Program} {hd0:Option Value} {w:World} {K:PySem.W.Frag} {tg:Expr} (it:Addr) (n:Nat) (e0:hd0=none):tL P w K hd0 tg (Itr2 n) [it] it (fun i h=>IsRangeIter h it (0+(i:Nat) * 2) ((n:Int)-(i:Nat)) 2) where
 mem:=by simp
 obj:=fun i h st b hb=>by
  have e:b=it:=by simpa using hb
  subst e
  exact⟨_,st,fun v z=>by
   have z':Data.fields _=Data.cell v:=z
   cases z'⟩
 keep:=fun i h h' st k=>k it (by simp) _ st
 item:=by
  intro X hP hw hK hc i pins s σ H E I hf st hg
  subst hP hw hK
  obtain⟨f0,f1,f2,f3,f4,f5⟩:=hf it (by simp)
  have W:=Walks.range (prog:=X.prog) (w:=X.w) (hc.trans e0) it 0 2 n
  refine W.item i s _ _ hg st fun v h' tk hv st' kk=>?_
  obtain⟨t,rfl⟩:=hv
  have I1:Inv X pins σ H { s with heap:=h',toks:=tk }:=I.turned (fun b o hb e=>kk b o (by simpa using hb) e) f0 f1 f3 f4 f5
  refine⟨_,rfl,sW (s:={ s with heap:=h',toks:=tk }) (n:="range_iterator") st' rfl rfl (by decide) ⟨.int (2 * (i:Int)),H,I1,⟨t,?_⟩,⟨rfl,rfl⟩,st',fun b hb=>(hf b hb).1⟩⟩
  rw [show (0:Int)+(i:Int) * 2=2 * (i:Int) by omega]
 done:=by
  intro X hP hw hK hc i pins s σ H E I hf st hg
  subst hP hw hK
  obtain⟨f0,f1,f2,f3,f4,f5⟩:=hf it (by simp)
  exact wpAny_pyNext_range_end (hc.trans e0) st (by have:n<=i:=hg;omega) fun h' eb=>⟨rfl,I.turned (t':=s.toks) (fun b o hb e=>eb b o hb e) f0 f1 f3 f4 f5⟩
 self:=fun _ _ _ _ _ st h=>wpAny_pyIter_rangeiter st h
theorem rM (n:Nat):Builtin.Range.rangeSize 0 (2 * (n:Int)) 2=(n:Int):=by
 unfold Builtin.Range.rangeSize
 rw [if_pos (by decide)]
 split <;> omega
theorem xA {n:Nat} (h:n<=100000):Builtin.Range.small 0 (2 * (n:Int)) 2=true:=by
 unfold Builtin.Range.small
 rw [rM]
 unfold Builtin.Range.rangeFitsLong
 rw [if_pos (by decide:(2:Int) > 0),decide_eq_true (by decide:-2 ^ 63<=(0:Int)),decide_eq_true (by decide:(0:Int)<2 ^ 63),decide_eq_true (by omega:-2 ^ 63<=2 * (n:Int)),decide_eq_true (by omega:2 * (n:Int)<2 ^ 63),decide_eq_true (by decide:-2 ^ 63<=(2:Int)),decide_eq_true (by decide:(2:Int)<2 ^ 63),
  decide_eq_true (by omega:-2 ^ 63<=(n:Int)),decide_eq_true (by omega:(n:Int)<2 ^ 63),decide_eq_true (by omega:-2 ^ 63<=2 * (n:Int)+(2-1)),decide_eq_true (by omega:2 * (n:Int)+(2-1)<2 ^ 63)]
 simp
def iRng3 (ta:TA):TI:=fun σ H R=>ta σ H fun vs H1=>∃n:Nat,vs=[.int 0,.int (2 * (n:Int)),.int 2]/\n<=100000/\R (Itr2 n) H1
theorem oH {tg a b c:Expr} {ta:TA} {p pos:Pos} (hg:Gl X "range") (hm:X.mg "range"=none) (ha:PA X [a,b,c] ta) (hs:starEach [a,b,c] X.env=[(false,eval a X.env),(false,eval b X.env),(false,eval c X.env)]:=by rfl) (hs2:starEach [b,c] X.env=[(false,eval b X.env),(false,eval c X.env)]:=by rfl) (hc0:X.calm=true:=by rfl):
  PI X tg (.Call (.Name "range" p) [a,b,c] [] pos) (iRng3 ta):=by
 intro pins s σ H R I h
 refine Call_ (iC I hg hm boot_range (PyProof.Rows.callWith_type1 (thn (ha pins s σ H _ I h) fun us s1 ⟨vs,H1,I1,r1,q1⟩=>?_) (by rw [hs,hs2]) (by rw [hs2];rfl)))
 obtain⟨n,e,hn,q⟩:=q1
 subst e
 cases r1 with
 | cons r rr=>
  cases rr with
  | cons r' rr=>
   cases rr with
   | cons r'' rr=>
    cases rr
    obtain⟨t,rfl⟩:=r
    obtain⟨t',rfl⟩:=r'
    obtain⟨t'',rfl⟩:=r''
    refine call_range_3 (by decide) ?_ (Or.inl (PyProof.noPylong_small (by omega)))
    refine wpAny_pyIter_range (IsRange.new ..) (xA hn) ?_
    have I2:Inv X pins σ H1 { s1 with heap:=s1.heap.push { cls:=.type "range",data:=.fields #[.int 0 t,.int (2 * (n:Int)) t',.int 2 t''] } }:=I1.kept fun b o e=>Heap.get?_push_of_some _ e
    refine⟨(s1.heap.push { cls:=.type "range",data:=.fields #[.int 0 t,.int (2 * (n:Int)) t',.int 2 t''] }).objs.size,[(s1.heap.push { cls:=.type "range",data:=.fields #[.int 0 t,.int (2 * (n:Int)) t',.int 2 t''] }).objs.size],_,_,H1,rfl,
     I2.kept (t':=s1.toks) fun b o e=>Heap.get?_push_of_some _ e,rG _ n (I.ok.hd hc0),?_,fun b hb=>?_,q⟩
    ·show IsRangeIter _ _ (0+((0:Nat):Int) * 2) ((n:Int)-((0:Nat):Int)) 2
     have e2:((n:Int)-((0:Nat):Int))=Builtin.Range.rangeSize 0 (2 * (n:Int)) 2:=by rw [rM];omega
     rw [e2]
     exact Heap.get?_push_size _ rfl
    ·have e:b=(s1.heap.push { cls:=.type "range",data:=.fields #[.int 0 t,.int (2 * (n:Int)) t',.int 2 t''] }).objs.size:=by simpa using hb
     subst e
     exact I2.fpOk (Nat.le_refl _) (I2.hok.fresh (Nat.le_refl _))
end
def TabK (P:Program) (w:World) (K:Frag) (d:Addr) (c:List (Str × Int)):Prop:=∀h,K.In h->StrTab P w h d (kdpD c)
theorem tabK_of {P:Program} {w:World} {K:Frag} {d:Addr} {c:List (Str × Int)} (e:KTD.tabLook KTD.flatLooks (fun b=>K.lookup b) d (c.map fun p=>(p.1,PyData.int p.2))=true) (n:((c.map fun p=>(p.1,PyData.int p.2)).map (·.1)).Nodup)
  (q:KTD.hashesOf (fun b=>K.lookup b) d=(c.map fun p=>(p.1,PyData.int p.2)).map fun p=>(PySem.strKind P w).hash p.1):TabK P w K d c:=fun h x=>by
 have:=kt_tab_in P w x e n q
 rw [List.map_map] at this
 exact this
section
variable {X:Cx} {e:Expr} {apos cpos p:Pos} {ty:TE}
def tTGet (c:List (Str × Int)) (ty:TE):TE:=fun σ H Q=>ty σ H fun y H2=>∃k,y=.str k/\(kdpHas c k=true->Q (.int (kdpLook c k 0)) H2)/\(kdpHas c k=false->Q .non H2)
theorem pe_tget {x:Str} {d:Addr} {c:List (Str × Int)} (T:TabK X.prog X.w X.K d c) (hg:Gl X x) (hm:X.mg x=some (.ref d)) (he:PE X e ty) (m:M1 X (.Name x p) "get" apos e cpos) (hd:(x == ("__debug__":Str))=false:=by decide):
  PE X (.Call (.Attribute (.Name x p) "get" apos) [e] [] cpos) (tTGet c ty):=by
 intro pins s σ H Q I h
 refine wpAny_Call_method m.base m.few m.line PySem.F.plainAttrs_dict PySem.F.slot_dict_get PySem.F.type_dict_get (gT I hg hm ?_ hd)
 obtain⟨_,kvs,⟨o,es,ep,ho,ex,_⟩,_⟩:=T s.heap I.kIn
 refine⟨⟨o,ho,ex.1⟩,fun a e2=>?_,?_⟩
 ·cases e2
  exact⟨o,ho,ex.2.1⟩
 rw [m.trees]
 refine Calls.callWith_builtin rfl (Calls.evalArgs_plain (Calls.spliced_cons (thn (he s σ H _ I h) fun iv s2 ⟨y,H2,I2,ry,k,ey,q1,q2⟩=>Calls.spliced_nil ?_)))
 subst ey
 obtain⟨t,rfl⟩:=ry
 exact kdp_get1 (T s2.heap I2.kIn) (fun hk t=>⟨.int _,H2,I2.tok _,⟨_,rfl⟩,q1 hk⟩) fun hk=>⟨.non,H2,I2.tok _,rfl,q2 hk⟩
end
end L2
namespace Tm
open PySem PySem.StrLaws PyProof.Rows PySem.W
def sg (x:Str):List Nat:=x.cps.toList
theorem sg_ext {a b:Str} (h:sg a=sg b):a=b:=Str.ext' (Array.toList_inj.mp h)
theorem sg_app (a b:Str):sg (a++b)=sg a++sg b:=by unfold sg;rw [Str.cps_append,Array.toList_append]
theorem sg_len (a:Str):(sg a).length=a.length:=Array.length_toList
theorem pV (c:Nat):sg ⟨#[c]⟩=[c]:=rfl
theorem AaV {c:Nat}:∀{p q A B:List Nat},c ∉ p->c ∉ q->p++c::A=q++c::B->p=q/\A=B
 | [],[],_,_,_,_,h=>⟨rfl,(List.cons.inj h).2⟩
 | [],y::q,_,_,_,hq,h=>absurd (by rw [(List.cons.inj h).1];exact List.mem_cons_self) hq
 | x::p,[],_,_,hp,_,h=>absurd (by rw [<- (List.cons.inj h).1];exact List.mem_cons_self) hp
 | x::p,y::q,A,B,hp,hq,h=>by
  obtain⟨h1,h2⟩:=List.cons.inj h
  obtain⟨e1,e2⟩:=AaV (fun z=>hp (List.mem_cons_of_mem _ z)) (fun z=>hq (List.mem_cons_of_mem _ z)) h2
  exact⟨by rw [h1,e1],e2⟩
theorem join_two (s x y:Str) (r:List Str):Str.join s (x::y::r)=x++s++Str.join s (y::r):=rfl
theorem sT {c:Nat}:∀{ps qs:List Str},ps≠[]->qs≠[]->(∀p ∈ ps,c ∉ sg p)->(∀q ∈ qs,c ∉ sg q)->Str.join ⟨#[c]⟩ ps=Str.join ⟨#[c]⟩ qs->ps=qs
 | [],_,h,_,_,_,_=>absurd rfl h
 | _,[],_,h,_,_,_=>absurd rfl h
 | [p],[q],_,_,_,_,h=>by
  rw [show p=q from h]
 | [p],q::q2::r,_,_,hp,_,h=>by
  have e:=congrArg sg h
  rw [join_two,sg_app,sg_app,pV] at e
  refine absurd ?_ (hp p List.mem_cons_self)
  rw [show sg p=_ from e]
  simp
 | p::p2::r,[q],_,_,_,hq,h=>by
  have e:=congrArg sg h
  rw [join_two,sg_app,sg_app,pV] at e
  refine absurd ?_ (hq q List.mem_cons_self)
  rw [show sg q=_ from e.symm]
  simp
 | p::p2::r,q::q2::r2,_,_,hp,hq,h=>by
  have e:=congrArg sg h
  rw [join_two,join_two,sg_app,sg_app,sg_app,sg_app,pV,List.append_assoc,List.append_assoc] at e
  obtain⟨e1,e2⟩:=AaV (hp p List.mem_cons_self) (hq q List.mem_cons_self) e
  have:=sT (by simp) (by simp) (fun x hx=>hp x (List.mem_cons_of_mem _ hx)) (fun x hx=>hq x (List.mem_cons_of_mem _ hx)) (sg_ext e2)
  rw [sg_ext e1,this]
theorem split_ne (x:Str) (c:Nat):Txt.split x ⟨#[c]⟩≠[]:=fun h=>by
 have e:=join_split x ⟨#[c]⟩
 rw [h] at e
 have h0:x.length=0:=by rw [<- e];rfl
 unfold Txt.split at h
 rw [if_pos (by rw [h0];rfl)] at h
 cases h
theorem split_join {c:Nat} {ps:List Str} (h:ps≠[]) (hp:∀p ∈ ps,c ∉ sg p):Txt.split (Str.join ⟨#[c]⟩ ps) ⟨#[c]⟩=ps:=
 sT (split_ne _ _) h (split_free _ c) hp (join_split _ _)
def wdB (x:Str):Bool:=decide (1<=x.length) && decide (x.length<=30) && (sg x).all fun c=>decide (33<=c) && decide (c<=126)
structure Wd (x:Str):Prop where
 ne:1<=x.length
 le:x.length<=30
 all:∀c ∈ sg x,33<=c/\c<=126
theorem wd_iff {x:Str}:wdB x=true↔Wd x:=by
 unfold wdB
 constructor
 ·intro h
  simp only [Bool.and_eq_true,decide_eq_true_eq,List.all_eq_true] at h
  exact⟨h.1.1,h.1.2,h.2⟩
 ·intro h
  simp only [Bool.and_eq_true,decide_eq_true_eq,List.all_eq_true]
  exact⟨⟨h.ne,h.le⟩,h.all⟩
def numT (i:Int):Str:=Str.ofString (toString i)
def iR (m:Nat):List Nat:=(Nat.toDigits 10 m).map Char.toNat
theorem lI {i:Int} (h:0<=i):sg (numT i)=iR i.toNat:=by
 obtain⟨m,rfl⟩:=Int.eq_ofNat_of_zero_le h
 exact KIN.signs_num m
theorem qK {i:Int} (h:i<0):sg (numT i)=45::iR (0-i).toNat:=by
 unfold numT sg
 rw [toString_neg h,signs_ofString,String.toList_append,List.map_append]
 have e:=lI (i:=0-i) (by omega)
 unfold numT sg at e
 rw [signs_ofString] at e
 rw [e]
 rfl
theorem jP (m:Nat):∀c ∈ iR m,48<=c/\c<=57:=fun c hc=>by
 obtain⟨ch,hch,e⟩:=List.mem_map.mp hc
 have r:=digit_range (Nat.isDigit_of_mem_toDigits (by decide) (by decide) hch)
 rw [<- e]
 exact r
theorem lJ (m:Nat):1<=(iR m).length:=by
 unfold iR
 rw [List.length_map]
 exact tDigits_len_ge 10 m
theorem wR {m:Nat} (h:m<10 ^ 18):(iR m).length<=18:=by
 unfold iR
 rw [List.length_map]
 exact digits10_le (by decide) h
theorem xY:iR 0=[48]:=by decide +kernel
def Bs (i:Int):Prop:=-1000000000000000000<i/\i<1000000000000000000
theorem num_wd {i:Int} (h:Bs i):Wd (numT i):=by
 obtain⟨h1,h2⟩:=h
 have l:=sg_len (numT i)
 by_cases z:0<=i
 ·have e:=lI z
  have g:=lJ i.toNat
  have g2:=wR (m:=i.toNat) (by omega)
  rw [e] at l
  refine⟨by omega,by omega,fun c hc=>?_⟩
  rw [e] at hc
  have:=jP _ c hc
  omega
 ·have e:=qK (i:=i) (by omega)
  have g:=lJ (0-i).toNat
  have g2:=wR (m:=(0-i).toNat) (by omega)
  rw [e,List.length_cons] at l
  refine⟨by omega,by omega,fun c hc=>?_⟩
  rw [e] at hc
  rcases List.mem_cons.mp hc with rfl|hc
  ·omega
  ·have:=jP _ c hc
   omega
theorem num_reads {i:Int} (h:Bs i):PySem.intText? (numT i)=some i:=by
 have w:=num_wd h
 have wl:=w.le
 by_cases z:0<=i
 ·have e:=lI z
  have h3:=lJ i.toNat
  rw [intText_digits (x:=numT i) (by rw [show (numT i).cps.toList=iR i.toNat from e];exact jP _) (by
   rw [show (numT i).cps.toList=iR i.toNat from e]
   intro q
   rw [q] at h3
   exact absurd h3 (by decide)) (by omega)]
  rw [show (numT i).cps.toList=iR i.toNat from e]
  unfold iR
  rw [KIN.val_back,Int.toNat_of_nonneg z]
 ·have e:=qK (i:=i) (by omega)
  have h3:=lJ (0-i).toNat
  rw [intText_neg (x:=numT i) e (jP _) (by
   intro q
   rw [q] at h3
   exact absurd h3 (by decide)) (by omega)]
  unfold iR
  rw [KIN.val_back]
  congr 1
  omega
end Tm
namespace Hd
open PySem PyProof.Rows
section
variable {M:Model} {A:Around} {E:Value->Shared->Prop} {s:Shared}
theorem set3 {bs:Heap} {l:List Env} {e:Addr} {cls x0 fl:Value} {fr:Option Addr} {Q:Unit->Shared->Prop} (st:bs.StaysIn s.heap) (ff:s.heap.FunFrames bs l) (tr:s.heap.TracedAtW bs e cls x0 fl) (nc:NoCtx e s.heap)
  (q:∀h',bs.StaysIn h'->h'.FunFrames bs l->(∃fl',h'.TracedAtW bs e cls x0 fl')->s.heap.UpToSlots h'->NoCtx e h'->Q () { s with heap:=h' }):wpAny M A (setFlight (.ref e) fr) Q E s:=by
 obtain⟨o,fs,T,oT,ts,ho,hc,hf,f1,bT,ne,hT,dT,t3⟩:=tr
 have sz:3<ts.size:=(Array.getElem?_eq_some_iff.mp t3).1
 unfold setFlight
 refine wpAny_bind (wpAny_field ho hf f1 ?_)
 rw [if_pos (by simp:(Value.ref T != Value.none)=true)]
 refine wpAny_setField hT dT sz ?_
 have oth:∀b,b≠T->(s.heap.update T (Obj.mapFields (·.setIfInBounds 3 (fr.elim Value.none fun f=>rawInt f)))).get? b=s.heap.get? b:=fun b z=>Heap.get?_update_other _ _ (fun w=>z w.symm)
 have nrec:∀b o',s.heap.get? b=some o'->(∀ws,o'.data≠.fields ws)->b≠T:=fun b o' z nf w=>by
  subst w
  rw [hT] at z
  cases z
  exact nf ts dT
 have hd3:=Obj.data_mapFields dT (·.setIfInBounds 3 (fr.elim Value.none fun f=>rawInt f))
 refine q _ (fun b o' z=>(oth b fun w=>by rw [w,bT] at z;cases z).trans (st b o' z)) (ff.of_keeps fun b o' z nf=>⟨o',(oth b (nrec b o' z nf)).trans z,rfl⟩) ?_ (fun b o' z nf=>⟨o'.slots,(oth b (nrec b o' z nf)).trans z⟩) (nc.other (oth e (Ne.symm ne)))
 exact⟨fr.elim Value.none fun f=>rawInt f,o,fs,T,_,_,(oth e (Ne.symm ne)).trans ho,hc,hf,f1,bT,ne,Heap.get?_update_self _ hT (Obj.isFreed_of_fields hd3),hd3,by simp [sz]⟩
theorem leave3 {bs:Heap} {env:Env} {rest:List Env} {L e:Addr} {cls x0 fl:Value} {Q:Unit->Shared->Prop} (frm:A.frames=some (env::rest)) (fr:env.frame=some L) (st:bs.StaysIn s.heap) (hn:bs.get? e=none) (ff:s.heap.FunFrames bs (env::rest)) (tr:s.heap.TracedAtW bs e cls x0 fl) (nc:NoCtx e s.heap)
  (q:∀h',Heap.FlyingW bs rest e cls x0 h'->s.heap.UpToSlots h'->NoCtx e h'->Q () { s with heap:=h' }):wpAny M A (leaving env (.ref e)) Q E s:=by
 have tr0:=tr
 obtain⟨o,fs,T,oT,ts,ho,⟨hc,f0⟩,hf,f1,bT,ne,hT,dT,t3⟩:=tr
 obtain⟨o',fs',z1,z2,f2⟩:=nc
 rw [ho] at z1
 cases z1
 rw [hf] at z2
 cases z2
 subst hc
 have nc:NoCtx e s.heap:=⟨_,_,ho,hf,f2⟩
 have fin:∀(h1:Heap) (fl':Value),bs.StaysIn h1->h1.FunFrames bs (env::rest)->h1.TracedAtW bs e o.cls x0 fl'->(∀b o',s.heap.get? b=some o'->(∀vs,o'.data≠.fields vs)->∃sl,h1.get? b=some { o' with slots:=sl })->NoCtx e h1->wpAny M A (setFlight (.ref e) none) Q E { s with heap:=h1 }:=fun h1 fl' x1 x2 x3 x4 nc1=>by
  refine set2 (s:={ s with heap:=h1 }) x1 x2 x3 nc1 fun h2 y1 y2 y3 y4 nc2=>?_
  obtain⟨_,_,y2⟩:=y2
  exact q h2 ⟨y1,hn,y2,y3⟩ (upT x4 y4) nc2
 unfold leaving
 refine wpAny_bind ?_
 unfold noteFrame
 simp only [fr]
 refine wpAny_bind (wpAny_field ho hf f1 ?_)
 rw [if_pos (by simp:(Value.ref T != Value.none)=true)]
 refine wpAny_bind (wpAny_field hT dT t3 ?_)
 by_cases hb:(fl == rawInt L)=true
 ·rw [if_pos hb]
  exact wpAny_pure (fin s.heap fl st ff tr0 (fun b o' z _=>⟨o'.slots,z⟩) nc)
 ·rw [if_neg hb]
  refine wpAny_bind (wpAny_setField hT dT (Array.getElem?_eq_some_iff.mp t3).1 ?_)
  have oth:∀b,b≠T->(s.heap.update T (Obj.mapFields (·.setIfInBounds 3 Value.none))).get? b=s.heap.get? b:=fun b z=>Heap.get?_update_other _ _ (fun w=>z w.symm)
  have nrec:∀b o',s.heap.get? b=some o'->(∀ws,o'.data≠.fields ws)->b≠T:=fun b o' z nf w=>by
   subst w
   rw [hT] at z
   cases z
   exact nf ts dT
  refine vC frm (ff.of_keeps fun b o' z nf=>⟨o',(oth b (nrec b o' z nf)).trans z,rfl⟩) fr ((oth e (Ne.symm ne)).trans ho) (fun b o' z=>(oth b fun w=>by rw [w,bT] at z;cases z).trans (st b o' z)) hn hf f0 f2 fun h' ⟨x1,x2,x3,x4⟩ nc'=>?_
  exact fin h' _ x1 x2 x3 (fun b o' z nf=>x4 b o' ((oth b (nrec b o' z nf)).trans z) nf) nc'
end
end Hd
namespace L2
open PySem PySem.Spec PyProof.Rows
structure FlyA (P:Program) (w:World) (outer:List Env) (H:Hp) (h:Heap) (ea:Addr) (cls a0 fl:Value) (H':Hp) (B h':Heap):Prop where
 st:B.StaysIn h'
 hn:B.get? ea=none
 ff:h'.FunFrames B outer
 tr:h'.TracedAtW B ea cls a0 fl
 nc:Hd.NoCtx ea h'
 hok:HOk P w H' B
 new:h.get? ea=none
 keepB:∀b o,h.get? b=some o->H b=none->b ∉ frs outer->B.get? b=some o
 slot:∀b o,h.get? b=some o->b ∈ frs outer->∃sl,h'.get? b=some { o with slots:=sl }
 free:∀b o,h.get? b=some o->H b=none->H' b=none
 thereB:∀b o,h.get? b=some o->b ∉ frs outer->∃o',B.get? b=some o'
 tups:∀b xs,H b=some (.tup xs)->H' b=some (.tup xs)
 frzs:∀b o u,H b=some (.frz o u)->H' b=some (.frz o u)
 tbls:∀b ps,H b=some (.tbl ps)->∃more,H' b=some (.tbl (ps++more))
def CXA (P:Program) (w:World):CXT:=fun outer H s E e s'=>∃(ea:Addr) (cls a0 fl:Value) (H':Hp) (B:Heap),
 e=Value.ref ea/\s'.os=s.os/\AllBare s'.gens/\FlyA P w outer H s.heap ea cls a0 fl H' B s'.heap/\E cls none H'
theorem wO {h B B':Heap}:∀{l:List Env},h.FunFrames B l->(∀b,b ∈ frs l->B'.get? b=none)->h.FunFrames B' l
 | [],_,_=>trivial
 | env::l,F,n=>by
  unfold Heap.FunFrames at F ⊢
  obtain⟨k,⟨L,o,z1,z2,z3⟩,r⟩:=F
  refine⟨k,⟨L,o,z1,n L ?_,z3⟩,wO r fun b hb=>n b ?_⟩
  ·rw [eR z1];exact List.mem_cons_self
  ·rw [eR z1];exact List.mem_cons_of_mem _ hb
section
variable {P:Program} {w:World} {K:PySem.W.Frag} {mg:Str->Option Value} {base:Heap} {N:List Str} {qual:Str} {scope:Scope} {f:Addr} {cd:Value} {A:Around} {outer:List Env} {s₀:Shared} {H₀:Hp} {E:XK}
theorem mJ {E':XK} (hE:∀cls d H,E' cls d H->E cls d H):iD (CXA P w) (iS (CXE P w) P w K mg base N qual scope f cd A outer s₀ H₀ E) E':=by
 intro pins σ H s e s' I hc
 obtain⟨ea,cls,a0,fl,H',B,rfl,os,bare,F,hE'⟩:=hc
 have low:∀b o,s₀.heap.get? b=some o->b ∉ frs outer->b ∉ frs (envOfC qual scope s₀.heap.objs.size f cd::outer):=fun b o q hb z=>by
  rw [eR (L:=s₀.heap.objs.size) rfl] at z
  rcases List.mem_cons.mp z with z|z
  ·rw [z] at q
   exact absurd (Heap.lt_size q) (Nat.lt_irrefl _)
  ·exact hb z
 have up:∀b,b ∈ frs outer->b ∈ frs (envOfC qual scope s₀.heap.objs.size f cd::outer):=fun b hb=>by
  rw [eR (L:=s₀.heap.objs.size) rfl]
  exact List.mem_cons_of_mem _ hb
 show wpAny _ _ (leaving _ (.ref ea)) _ _ _
 refine Hd.leave3 (rest:=outer) I.ok.frames rfl F.st F.hn F.ff F.tr F.nc fun h2 x1 x4 xn=>?_
 refine⟨ea,cls,a0,H',B,rfl,os.trans I.os,bare,⟨x1,xn,F.hok,?_,fun b o q n hb=>?_,fun b o q hb=>?_,fun b o q n=>?_,fun b o q hb=>?_,fun b xs q=>F.tups b xs (I.base.tups b xs q),fun b o u q=>F.frzs b o u (I.base.frzs b o u q),fun b ps q=>?_⟩,hE _ _ _ hE'⟩
 ·cases q:s₀.heap.get? ea with
  | none=>rfl
  | some o=>
   obtain⟨o',z⟩:=I.base.there ea o q (by intro z;cases z)
   rw [F.new] at z
   cases z
 ·exact F.keepB b o (I.base.keep b o q n hb (by intro z;cases z)) (I.base.free b o q n (by intro z;cases z)) (low b o q hb)
 ·obtain⟨sl,z⟩:=I.base.slot b o q (I.ok.frf b hb) hb (by intro z;cases z)
  obtain⟨sl2,z2⟩:=F.slot b _ z (up b hb)
  obtain⟨_,o',z',nf⟩:=F.ff.mem (up b hb)
  rw [z2] at z'
  cases z'
  obtain⟨sl',z3⟩:=x4 b _ z2 nf
  exact⟨sl',z3⟩
 ·obtain⟨o',z⟩:=I.base.there b o q (by intro z;cases z)
  exact F.free b o' z (I.base.free b o q n (by intro z;cases z))
 ·obtain⟨o',z⟩:=I.base.there b o q (by intro z;cases z)
  exact F.thereB b o' z (low b o q hb)
 ·obtain⟨m1,z⟩:=I.base.tbls b ps q
  obtain⟨m2,z2⟩:=F.tbls b _ z
  exact⟨m1++m2,by rw [z2,Array.append_assoc]⟩
end
def exA (X:Cx) (Y:Cx) (E:XK):Value->Shared->Prop:=fun e s'=>∃pl σ' H2 s2,Inv Y pl σ' H2 s2/\CXE X.prog X.w X.stack H2 s2 E e s'
abbrev Cx.blkX (X:Cx) (E:XK) (NB:List Str) (scope:Scope) (cl:List (Str × Addr)) (C:Addr) (s:Shared) (H:Hp) (fp:List Addr) (pn:List (Addr × Obj)):Cx:=
 { X.blkF NB scope cl C s H fp pn with xe:=exA X (X.blkF NB scope cl C s H fp pn) E }
theorem Inv.toX {X:Cx} {xe:Value->Shared->Prop} {pins:List (Addr × Obj)} {σ:St} {H:Hp} {s:Shared} (I:Inv X pins σ H s):Inv { X with xe:=xe } pins σ H s:=
 ⟨⟨I.ok.mod,I.ok.kind,I.ok.glob,I.ok.blt,I.ok.above,I.ok.inj,I.ok.has,I.ok.cab,I.ok.hd,I.ok.frames,I.ok.stk,I.ok.exf,I.ok.bs,I.ok.bsz,I.ok.noex,I.ok.exfs,I.ok.funs,I.ok.frf⟩,I.os,I.bare,I.base,I.loc,I.cell,I.free,I.freeC,I.pin,I.hok,I.len⟩
theorem Inv.ofX {X:Cx} {xe:Value->Shared->Prop} {pins:List (Addr × Obj)} {σ:St} {H:Hp} {s:Shared} (I:Inv { X with xe:=xe } pins σ H s):Inv X pins σ H s:=
 ⟨⟨I.ok.mod,I.ok.kind,I.ok.glob,I.ok.blt,I.ok.above,I.ok.inj,I.ok.has,I.ok.cab,I.ok.hd,I.ok.frames,I.ok.stk,I.ok.exf,I.ok.bs,I.ok.bsz,I.ok.noex,I.ok.exfs,I.ok.funs,I.ok.frf⟩,I.os,I.bare,I.base,I.loc,I.cell,I.free,I.freeC,I.pin,I.hok,I.len⟩
theorem vY {X:Cx} {E E':XK} {NB:List Str} {scope:Scope} {cl:List (Str × Addr)} {C:Addr} {s:Shared} {H:Hp} {fp:List Addr} {pn:List (Addr × Obj)} (hE:∀cls d H,E' cls d H->E cls d H):iD (CXE X.prog X.w) (X.blkX E NB scope cl C s H fp pn) E':=by
 intro pins σ H1 s1 e s' I hc
 obtain⟨ea,cls,a0,H',B,rfl,os,bare,F,hE'⟩:=hc
 exact⟨pins,σ,H1,s1,I.ofX,ea,cls,a0,H',B,rfl,os,bare,F,hE _ _ _ hE'⟩
theorem AaN {h h' B:Heap} {C:Addr} (sb:Heap.SameBut C h h'):∀{l:List Env},h.FunFrames B l->C ∉ frs l->h'.FunFrames B l
 | [],_,_=>trivial
 | env::l,F,n=>by
  unfold Heap.FunFrames at F ⊢
  obtain⟨k,⟨L,o,z1,z2,z3,z4⟩,r⟩:=F
  rw [eR z1] at n
  refine⟨k,⟨L,o,z1,z2,(sb.2 L fun w=>n (by rw [w];exact List.mem_cons_self)).trans z3,z4⟩,AaN sb r fun hb=>n (List.mem_cons_of_mem _ hb)⟩
section
variable {X:Cx} {NB:List Str} {n:Nat} {js:List Nat} {scope:Scope} {cl:List (Str × Addr)}
theorem raised {E:XK} {pins:List (Addr × Obj)} {σ:St} {H:Hp} {s3:Shared} {fp:List Addr} {Q:Value->Shared->Prop} {acc:Value} (hst:X.stack=X.env::X.outer) (hfr:X.env.frame=some X.env.locals) (T:dZ X NB n js scope cl) (hP:iD (CXA X.prog X.w) X E) (I3:Inv X pins σ H s3) (f3:∀b ∈ fp,gF X pins H b) (lt3:∀b ∈ fp,b<s3.heap.objs.size)
  {e:Value} {s':Shared} (z:exA X (X.blkF NB scope cl s3.heap.objs.size s3 H fp (X.pn++pins)) E e s'):
  notedBy (model X.prog X.w) X.A (compEnvC scope cl s3.heap.objs.size X.env) (fun e s'=>compPost (model X.prog X.w) X.A X.xe none Q acc s3.heap.objs.size (.error e) s') e s':=by
 obtain⟨pl,σ',H2,s2,J,ea,cls,a0,H',B,rfl,os,bare,F,hE⟩:=z
 have frm:X.A.frames=some (X.env::X.outer):=by rw [<- hst];exact J.ok.frames
 have F:=F
 rw [hst] at F
 show wpAny _ _ (noteFrame (.ref ea) X.env) _ _ _
 refine Hd.look2 frm hfr F.fly F.nc fun h1 hh up nc1=>?_
 obtain⟨x1,hn,x2,x3⟩:=hh
 obtain⟨m,hm,_⟩:=J.loc
 have hm:s2.heap.Ns s3.heap.objs.size m:=hm
 have hC0:H2 s3.heap.objs.size=none:=J.free
 have nfr:s3.heap.objs.size ∉ frs (X.env::X.outer):=fun z=>by
  rw [<- hst] at z
  have:=(I3.stack.mem z).2
  obtain⟨o,q,_⟩:=this
  exact absurd (Heap.lt_size q) (Nat.lt_irrefl _)
 obtain⟨oC,es,ep,hC,hd,hk⟩:=hm
 have bC:B.get? s3.heap.objs.size=some oC:=F.keepB _ _ hC hC0 nfr
 refine⟨m,⟨oC,es,ep,x1 _ _ bC,hd,hk⟩,fun h' sb cenv hc=>?_⟩
 have neC:∀b,B.get? b=none->b≠s3.heap.objs.size:=fun b z w=>by
  rw [w,bC] at z
  cases z
 generalize hB:PySem.W.hideAll B [s3.heap.objs.size]=B'
 have inB:∀b o,B'.get? b=some o->b≠s3.heap.objs.size/\B.get? b=some o:=fun b o q=>by
  rw [<- hB] at q
  refine⟨fun w=>?_,PySem.W.of_hideAll _ q⟩
  rw [w,PySem.W.hideAll_none _ List.mem_cons_self] at q
  cases q
 have toB:∀b o,b≠s3.heap.objs.size->B.get? b=some o->B'.get? b=some o:=fun b o n q=>by
  rw [<- hB]
  exact PySem.W.hideAll_get _ q (by simpa using n)
 have noB:∀b,B.get? b=none->B'.get? b=none:=fun b q=>by
  cases r:B'.get? b with
  | none=>rfl
  | some o=>rw [(inB b o r).2] at q;cases q
 have st':B'.StaysIn h':=fun b o q=>(sb.2 b (inB b o q).1).trans (x1 b o (inB b o q).2)
 have ff':h'.FunFrames B' (X.env::X.outer):=wO (AaN sb x2 nfr) fun b hb=>noB b (x2.mem hb).1
 have tr':h'.TracedAtW B' ea cls a0 (rawInt X.env.locals):=by
  obtain⟨o,fs,Tt,oT,ts,ho,hc,hf,f1,bT,ne,hT,r⟩:=x3
  exact⟨o,fs,Tt,oT,ts,(sb.2 _ (neC _ hn)).trans ho,hc,hf,f1,noB _ bT,ne,(sb.2 _ (neC _ bT)).trans hT,r⟩
 have nc':Hd.NoCtx ea h':=nc1.other (sb.2 _ (neC _ hn))
 have tr0:=tr'
 obtain⟨o,fs,Tt,oT,ts,ho,hcl,hf,f1,bT,ne,hT,dT,t3⟩:=tr0
 unfold PySem.passOn
 refine wpAny_bind (wpAny_field (s:={ s' with heap:=h' }) ho hf f1 ?_)
 rw [if_neg (by simp:¬ ((Value.ref Tt == Value.none)=true))]
 refine wpAny_bind (Hd.set3 (s:={ s' with heap:=h' }) st' ff' tr' nc' fun h3 y1 y2 y3 y4 y5=>wpAny_throw ?_)
 obtain⟨fl',y3⟩:=y3
 generalize hh2:PySem.W.hideAll s2.heap [s3.heap.objs.size]=g
 have inG:∀b o,g.get? b=some o->b≠s3.heap.objs.size/\s2.heap.get? b=some o:=fun b o q=>by
  rw [<- hh2] at q
  refine⟨fun w=>?_,PySem.W.of_hideAll _ q⟩
  rw [w,PySem.W.hideAll_none _ List.mem_cons_self] at q
  cases q
 have sG:Heap.SameBut s3.heap.objs.size s2.heap g:=by
  rw [<- hh2]
  refine⟨PySem.W.hideAll_size _ _,fun b nb=>?_⟩
  cases q:s2.heap.get? b with
  | none=>
   cases r:(PySem.W.hideAll s2.heap [s3.heap.objs.size]).get? b with
   | none=>rfl
   | some o=>rw [PySem.W.of_hideAll _ r] at q;cases q
  | some o=>exact PySem.W.hideAll_get _ q (by simpa using nb)
 have IX:=iO I3 f3 lt3 J sG
 refine hP pins σ H2 { s2 with heap:=g } _ _ IX ⟨ea,cls,a0,fl',H',B',rfl,os,bare,?_,hE⟩
 rw [hst]
 refine⟨y1,noB _ hn,y2,y3,y5,fun b o q=>?_,?_,fun b o q n hb=>?_,fun b o q hb=>?_,fun b o q n=>?_,fun b o q hb=>?_,F.tups,F.frzs,F.tbls⟩
 ·have fr:H' s3.heap.objs.size=none:=F.free _ _ hC hC0
  refine(F.hok b o q).stay (fun c u hc r=>toB c u ?_ r) (fun _ z=>z) fun _ _ z=>z
  rintro rfl
  rcases hc with rfl|hc
  ·rw [fr] at q;cases q
  ·rw [fr] at hc;cases hc
 ·cases q:g.get? ea with
  | none=>rfl
  | some o=>have:=(inG _ _ q).2;rw [F.new] at this;cases this
 ·exact toB b o (inG b o q).1 (F.keepB b o (inG b o q).2 n hb)
 ·obtain⟨sl,z⟩:=F.slot b o (inG b o q).2 hb
  obtain⟨_,o',z',nf⟩:=F.fly.2.2.1.mem hb
  rw [z] at z'
  cases z'
  obtain⟨sl1,z1⟩:=up b _ z nf
  obtain⟨sl2,z2⟩:=y4 b _ ((sb.2 b (inG b o q).1).trans z1) nf
  exact⟨sl2,z2⟩
 ·exact F.free b o (inG b o q).2 n
 ·obtain⟨o',z⟩:=F.thereB b o (inG b o q).2 hb
  exact⟨o',toB b o' (inG b o q).1 z⟩
theorem sF {E:XK} {elt tg iter:Expr} {ifs:List Expr} {pos:Pos} {wi:TI} {g:TG} {tc:TT} {te:TE} (hk:scope.kind=.function) (hcell:∀x ∈ scope.names,x.2≠.cell)
  (hnames:∀x ∈ scope.names,x.2=.local->scope.names.lookup x.1=some .local) (_:(0:Nat)=0) (T:dZ X NB n js scope cl) (hP:iD (CXA X.prog X.w) X E) (hi:PI X tg iter wi)
  (hg:∀C s H fp pn,PG (X.blkF NB scope cl C s H fp pn) tg g) (ht:∀C s H fp pn,PTs (X.blkF NB scope cl C s H fp pn) ifs tc) (he:∀C s H fp pn,PE (X.blkX E NB scope cl C s H fp pn) elt te) (hst:X.stack=X.env::X.outer:=by rfl) (hfr:X.env.frame=some X.env.locals:=by rfl)
  (hs:∀x,foldedSetIterable iter X.env x=pure x:=by intro _;rfl):PE X (.ListComp elt [⟨tg,iter,ifs,0⟩] scope pos) (tV n js wi g tc te):=by
 intro pins s σ H Q I h
 rw [eval_ListComp]
 refine wpAny_comprehension_free (use:=none) rfl hs T.clo hk hnames (thn (hi s σ H _ I h) fun v s1 h1=>thn h1 fun itv s2 h2=>?_)
 obtain⟨it,fp,tn,J,H2,rfl,I2,U,st2,f2,h2⟩:=h2
 have lt2:∀b ∈ fp,b<s2.heap.objs.size:=fun b hb=>by
  obtain⟨o,q,_⟩:=U.obj 0 _ st2 b hb
  exact Heap.lt_size q
 refine wpAny_newObj_type ?_
 have hz:H2 s2.heap.objs.size=none:=I2.hok.fresh (Nat.le_refl _)
 obtain⟨W,⟨m0,w0⟩,turn⟩:=h2 s2.heap.objs.size hz
 have I3:Inv X pins σ (upd H2 s2.heap.objs.size (.lst [])) { s2 with heap:=s2.heap.push { cls:=.type "list",dict:=none,data:=.seq ([]:List Value).toArray } }:=
  I2.laid (t':=s2.toks) (fun b o q=>Heap.get?_push_of_some _ q) (Nat.le_refl _) ⟨Nat.zero_le _,[],0,.nil,Heap.get?_push_size _ rfl⟩
 generalize hs3:({ s2 with heap:=s2.heap.push { cls:=.type "list",dict:=none,data:=.seq ([]:List Value).toArray } }:Shared)=s3 at I3 ⊢
 have ups3:∀b o,s2.heap.get? b=some o->s3.heap.get? b=some o:=fun b o q=>by rw [<- hs3];exact Heap.get?_push_of_some _ q
 have f3:∀b ∈ fp,gF X pins (upd H2 s2.heap.objs.size (.lst [])) b:=fun b hb=>⟨by rw [aP (Nat.ne_of_lt (lt2 b hb))];exact(f2 b hb).1,(f2 b hb).2⟩
 have lt3:∀b ∈ fp,b<s3.heap.objs.size:=fun b hb=>by
  obtain⟨o,q,_⟩:=U.obj 0 _ st2 b hb
  exact Heap.lt_size (ups3 b o q)
 refine wpAny_newFunctionEnv hcell (by intro y hy;simp at hy) (fun h4 hn4 hs4=>?_) hk
 have keep4:∀b o,s3.heap.get? b=some o->h4.get? b=some o:=fun b o q=>(hs4.2 b (Nat.ne_of_lt (Heap.lt_size q))).trans (Heap.get?_push_of_some _ q)
 have I4:=nI (tk:=s3.toks+([]:List (Str × Value)).length) I3 hk T f3 lt3 hn4 keep4
 have st4:tn 0 h4:=U.keep _ _ _ st2 fun b hb o q=>keep4 b o (ups3 b o q)
 have fpY:∀{H':Hp},(∀b ∈ fp,H' b=none)->∀b ∈ fp,gF (X.blkF NB scope cl s3.heap.objs.size s3 (upd H2 s2.heap.objs.size (.lst [])) fp (X.pn++pins)) [] H' b:=fun hn b hb=>by
  obtain⟨g0,g1,g2,g3,g4,g5⟩:=f3 b hb
  exact⟨hn b hb,Nat.ne_of_lt (lt3 b hb),fun z=>(List.mem_cons.mp (I3.stkSub b z)).elim g1 g2,.inl hb,fun x c q=>g4 x c (T.sub x c q),fun p hp=>g5 p (by simpa using hp)⟩
 have loop:∀s5:Shared,s5={ s3 with heap:=h4,toks:=s3.toks+([]:List (Str × Value)).length }->codeAny (model X.prog X.w) X.A (.compLoop (.ListComp elt [⟨tg,iter,ifs,0⟩] scope pos) 0 (.ref it) (.ref s2.heap.objs.size) (compEnvC scope cl s3.heap.objs.size X.env))
   (compPost (model X.prog X.w) X.A X.xe none (EP X pins σ Q) (.ref s2.heap.objs.size) s3.heap.objs.size) s5:=by
  rintro s5 rfl
  refine codeAny_loop rfl (fun k s'=>∃i ys H',Inv (X.blkF NB scope cl s3.heap.objs.size s3 (upd H2 s2.heap.objs.size (.lst [])) fp (X.pn++pins)) [] (eY n js σ) H' s'/\tn i s'.heap/\(∀b ∈ fp,H' b=none)/\W i k ys H')
   (fun k s6 hI=>?_) m0 ⟨0,[],_,I4,st4,fun b hb=>(f3 b hb).1,w0⟩
  obtain⟨i,ys,H6,I6,st6,fr6,w6⟩:=hI
  show wpAny _ _ ((compTurn (.ListComp elt [⟨tg,iter,ifs,0⟩] scope pos) 0 (.ref it) (.ref s2.heap.objs.size) (compEnvC scope cl s3.heap.objs.size X.env)).onRaise (fun x=>do noteFrame x (compEnvC scope cl s3.heap.objs.size X.env);theTreesLotGoes x)) _ _ s6
  refine wpAny_noted ?_
  rw [compTurn_list]
  refine wpAny_bind (wpAny_standAt (wpAny_bind ?_))
  obtain⟨hacc,alt⟩:=turn i k ys H6 w6
  rcases alt with ⟨stop,q⟩|⟨go,step⟩
  ·refine thn (U.done (X.blkF NB scope cl s3.heap.objs.size s3 (upd H2 s2.heap.objs.size (.lst [])) fp (X.pn++pins)) rfl rfl rfl rfl i [] s6 _ H6 _ I6 (fpY fr6) st6 stop) fun r s7 ⟨hr,I7⟩=>?_
   subst hr
   obtain⟨m,hm,_⟩:=I7.loc
   exact wpAny_pure ⟨m,hm,fun h' hsb=>⟨.ref s2.heap.objs.size,H6,iO I3 f3 lt3 I7 hsb,rfl,q⟩⟩
  ·refine thn (U.item (X.blkF NB scope cl s3.heap.objs.size s3 (upd H2 s2.heap.objs.size (.lst [])) fp (X.pn++pins)) rfl rfl rfl rfl i [] s6 _ H6 _ I6 (fpY fr6) st6 go) fun r s7 ⟨u,hr,h7⟩=>?_
   subst hr
   refine wpAny_bind (thn h7 fun _ s8 ⟨x,H8,I8,r8,y8,st8,fr8⟩=>?_)
   have I8':=I8.pinned (fpY fr8) (U.obj _ _ st8)
   have gp:∀{σ9:St} {H9:Hp} {s9:Shared},Inv (X.blkF NB scope cl s3.heap.objs.size s3 (upd H2 s2.heap.objs.size (.lst [])) fp (X.pn++pins)) ([]++dO fp s8.heap) σ9 H9 s9->tn (i+1) s9.heap/\∀b ∈ fp,H9 b=none:=fun I9=>
    ⟨U.keep _ _ _ st8 fun b hb o e=>(I9.pin (b,o) (List.mem_append_right _ (List.mem_append_right _ (cX hb e)))).1,fun b hb=>by
     obtain⟨o,e,d⟩:=U.obj _ _ st8 b hb
     exact(I9.pin (b,o) (List.mem_append_right _ (List.mem_append_right _ (cX hb e)))).2.1⟩
   have wk:∀{σ9:St} {H9:Hp} {s9:Shared},σ9.drop n=(eY n js σ).drop n->Inv (X.blkF NB scope cl s3.heap.objs.size s3 (upd H2 s2.heap.objs.size (.lst [])) fp (X.pn++pins)) ([]++dO fp s8.heap) σ9 H9 s9->Inv (X.blkF NB scope cl s3.heap.objs.size s3 (upd H2 s2.heap.objs.size (.lst [])) fp (X.pn++pins)) [] (eY n js σ) H9 s9:=fun {σ9 H9 s9} hd I9=>
    I9.unpinned.weak (by rw [iP T,I9.len]) fun k v z=>by
     obtain⟨k',j,rfl,_,_⟩:=jU z
     have e:=congrArg (fun l=>l[k']?) hd
     simp only [List.getElem?_drop] at e
     rw [e]
     exact z
   refine wpAny_bind (wpAny_mono (hg _ _ _ _ _ s8 _ H8 x u _ I8' r8 (step x H8 y8)) (fun _ s9 hq=>?_) fun _ _ z=>z.elim)
   obtain⟨σ9,H9,I9,hd9,q9⟩:=hq
   refine wpAny_bind (wpAny_mono (ht _ _ _ _ _ s9 σ9 H9 _ I9 q9) (fun ok s10 hq=>?_) fun _ _ z=>z.elim)
   obtain⟨H10,I10,q10⟩:=hq
   cases ok with
   | false=>
    rw [if_neg (by simp)] at q10
    obtain⟨m',hm',w10⟩:=q10
    exact wpAny_pure ⟨rfl,m',hm',i+1,ys,H10,wk hd9 I10,(gp I10).1,(gp I10).2,w10⟩
   | true=>
    rw [if_pos rfl] at q10
    refine wpAny_bind (wpAny_bind (wpAny_mono (he _ _ _ _ _ s10 σ9 H10 _ I10.toX q10) (fun y s11 hq=>?_) fun e s' z=>raised hst hfr T hP I3 f3 lt3 z))
    obtain⟨yv,H11,I11,ry,ha11,hl11,m',hm',w11⟩:=hq
    replace I11:=I11.ofX
    have mt:=gK (X:=X.blkF NB scope cl s3.heap.objs.size s3 (upd H2 s2.heap.objs.size (.lst [])) fp (X.pn++pins)) ([]++dO fp s8.heap) s11 σ9 H11 (.ref s2.heap.objs.size) [yv] (.ref s2.heap.objs.size) [y] (fun _ H'=>W (i+1) m' (ys++[yv]) H') I11 rfl (.cons ry .nil) ⟨_,ys,yv,rfl,rfl,ha11,hl11,w11⟩
    refine wpAny_bind (wpAny_mono mt (fun _ s12 hq=>?_) fun _ _ z=>z.elim)
    obtain⟨v12,H12,I12,_,w12⟩:=hq
    exact wpAny_pure (wpAny_pure ⟨rfl,m',hm',i+1,_,H12,wk hd9 I12,(gp I12).1,(gp I12).2,w12⟩)
 exact codeAny_compStart_list (loop _ rfl) (U.self _ 0 _ _ _ st4 (loop _ rfl))
end
section
variable {X:Cx} {pins:List (Addr × Obj)} {σ:List (Option V)} {H:Hp} {s:Shared}
end
section
variable {X:Cx}
end
end L2
namespace L2
open PySem PySem.Spec PyProof.Rows PySem.W
section
variable {X:Cx} {pins pins':List (Addr × Obj)} {σ:St} {H:Hp} {s:Shared} {a:Addr} {o o':Obj} {h':Heap} {tk:Nat}
end
section
variable {X:Cx} {pins:List (Addr × Obj)} {σ:St} {H:Hp} {s:Shared} {A':Around} {E:Value->Shared->Prop} {D kS f:Addr} {vs:List Value} {xs:List V} {kz:List Int} {keys:Array Value} {e e1 n:Nat} {J:Hp->Prop} {P:PySem.Fin->Shared->Prop}
end
section
variable {X:Cx} {tg:Expr}
end
section
variable {X:Cx}
end
section
variable {X:Cx} {pins:List (Addr × Obj)} {σ:St} {l f I S:Addr} {ps:List Addr} {J:Hp->Prop} {R:Result->Shared->Prop}
end
section
variable {P:Program} {w:World} {K:PySem.W.Frag} {mg:Str->Option Value} {base:Heap} {x qual:Str} {st:Stmt} {f c:Addr} {fd:FuncData}
end
section
variable {X:Cx}
end
section
variable {P:Program} {w:World} {K:PySem.W.Frag} {mg:Str->Option Value} {base:Heap} {x qual:Str} {st:Stmt} {f c:Addr} {fd:FuncData}
end
section
variable {X:Cx}
end
end L2
namespace Hd
open PySem PyProof.Rows
section
variable {prog:Program} {w:World} {A:Around} {E:Value->Shared->Prop} {s:Shared}
theorem nQ:entryFor table "proto.unchain"=some Builtin.«proto.unchain»:=entryFor_of_tree (by kernel_rfl)
theorem nN:plainId "proto.unchain"=true:=by decide +kernel
theorem pG {v:Value} {h:Addr} {oh:Obj} {fs:Array Value} {Q:Value->Shared->Prop} (hh:s.heap.get? h=some oh) (hd:oh.data=.fields fs) (h2:fs[2]?=some .none) (hQ:Q .none s):
  wpAny (model prog w) A (runValue (.builtin "proto.unchain" ⟨[v,.ref h,.ref h,.bool false],[]⟩)) Q E s:=by
 refine wpAny_runValue (codeAny_builtin nQ ?_)
 rw [Around.under_plainId nN _]
 show wpAny _ _ (field (.ref h) 2 >>= _) _ _ s
 refine wpAny_bind (wpAny_field hh hd h2 ?_)
 show wpAny _ _ (ret Value.none) _ _ s
 exact wpAny_pure hQ
theorem stopH {α:Type} {h:Addr} {Q:α->Shared->Prop} (hh:A.handled=some (.ref h)) (nc:NoCtx h s.heap)
  (hE:∀g e,(∀b o,s.heap.get? b=some o->g.get? b=some o)->(∃o,g.get? e=some o/\o.cls=.type "StopIteration")->E (.ref e) { s with heap:=g }):
  wpAny (model prog w) A (do let e <- newExc (.type "StopIteration") [];raiseNew e) Q E s:=by
 obtain⟨oh,fs,n1,n2,n3⟩:=nc
 have hlt:h<s.heap.objs.size:=Heap.lt_size n1
 refine wpAny_bind ?_
 simp only [newExc,newTuple]
 refine wpAny_bind (wpAny_newObj_type ?_ (by size_fits))
 refine wpAny_bind (m:=firstArgMember _ _) (wpAny_of_eq (a:=Value.none) rfl ?_)
 refine wpAny_newObj_type ?_ (by size_fits)
 unfold raiseNew
 refine wpAny_bind (wpAny_handled ?_)
 rw [hh]
 generalize hT:s.heap.push { cls:=Value.type "tuple",data:=Data.seq #[] }=g1
 have k1:∀b o,s.heap.get? b=some o->g1.get? b=some o:=fun b o e=>by
  rw [<- hT]
  exact Heap.get?_push_of_some _ e
 have s1:g1.objs.size=s.heap.objs.size+1:=by rw [<- hT,Heap.size_push]
 dsimp only
 rw [if_pos (by
  show (Value.ref h != Value.ref g1.objs.size)=true
  simp only [bne_iff_ne,ne_eq,Value.ref.injEq]
  exact Nat.ne_of_lt (by rw [s1];exact Nat.lt_succ_of_lt hlt))]
 refine wpAny_bind (wpAny_holding (pG (oh:=oh) (fs:=fs) (Heap.get?_push_of_some _ (k1 _ _ n1)) n2 n3 ?_))
 have eN:=Heap.get?_push_size g1 (o:={ cls:=Value.type "StopIteration",data:=Data.fields (#[Value.ref s.heap.objs.size,Value.none,Value.none,Value.none,Value.bool false,Value.none]++ownMembersOf (Value.type "StopIteration") []) }) rfl
 refine wpAny_bind (wpAny_setField eN rfl (by simp;omega) ?_)
 refine wpAny_throw (hE _ _ (fun b o e=>?_) ⟨_,Heap.get?_update_self _ eN rfl,rfl⟩)
 have hb:=Heap.lt_size e
 rw [Heap.get?_update_other _ _ (Nat.ne_of_gt (by rw [s1];exact Nat.lt_succ_of_lt hb))]
 exact Heap.get?_push_of_some _ (k1 b o e)
theorem NoCtx.upd {it h:Addr} {f:Obj->Obj} {hp:Heap} (n:NoCtx h hp) (hne:h≠it):NoCtx h (hp.update it f):=n.other (Heap.get?_update_other _ _ (Ne.symm hne))
theorem AaA {it l h:Addr} {i:Nat} {items:Array Value} {Q:PySem.Fin->Shared->Prop} (hh:A.handled=some (.ref h)) (hit:s.heap.IsListIter it l i) (hl:s.heap.IsList l items) (hx:items[i]?=none) (nc:NoCtx h s.heap) (hne:h≠it)
  (hE:∀h' e,Heap.ExtBut it s.heap h'->(∃o,h'.get? e=some o/\o.cls=.type "StopIteration")->E (.ref e) { s with heap:=h' }):wpAny (model prog w) A (Builtin.«list_iterator.__next__» ⟨[.ref it],[]⟩) Q E s:=by
 obtain⟨o,hoi,hc,hdi⟩:=id hit
 obtain⟨ol,hol,_,nl,hdl⟩:=hl
 show wpAny _ _ (field (Value.ref it) 0 >>= _) _ _ _
 refine wpAny_bind (wpAny_field (x:=Value.ref l) hoi hdi rfl ?_)
 show wpAny _ _ (if (Value.ref l == Value.none)=true then _ else _) _ _ _
 rw [if_neg (by simp)]
 show wpAny _ _ (field (Value.ref it) 1 >>= _) _ _ _
 refine wpAny_bind (wpAny_field (x:=Value.int i 0) hoi hdi rfl (wpAny_bind (wpAny_seqItems hol hdl ?_)))
 simp only [Int.toNat_natCast,hx]
 refine wpAny_bind (wpAny_rule (wpAny_bind (wpAny_setField hoi hdi (by simp) (stopH hh (nc.upd hne) fun g e kk he=>hE g e (fun b ob nb z=>kk b ob ?_) he))))
 exact(Heap.get?_update_other _ _ (Ne.symm nb)).trans z
theorem tup_endH {it t h:Addr} {i:Nat} {items:Array Value} {Q:Option Value->Shared->Prop} (hh:A.handled=some (.ref h)) (hit:IsTupIter s.heap it t i) (ht:IsTup s.heap t items) (hx:items[i]?=none) (nc:NoCtx h s.heap) (hne:h≠it)
  (hQ:∀h',Heap.ExtBut it s.heap h'->Q none { s with heap:=h' }):wpAny (model prog w) A (pyNext (.ref it)) Q E s:=by
 obtain⟨o,hoi,hc,hdi⟩:=id hit
 obtain⟨ol,hol,_,nl,hdl⟩:=ht
 unfold pyNext
 refine wpAny_bind (wpAny_attempt (wpAny_callSpecial?_slot hit.typeIs slot_tupleiter_next (wpAny_call_entry slot_tupleiter_next hit.typeIs entry_tupleiter_next ?_ (args_tupleiter_next _))))
 show wpAny _ _ (field (Value.ref it) 0 >>= _) _ _ _
 refine wpAny_bind (wpAny_field (x:=Value.ref t) hoi hdi rfl ?_)
 show wpAny _ _ (if (Value.ref t == Value.none)=true then _ else _) _ _ _
 rw [if_neg (by simp)]
 show wpAny _ _ (field (Value.ref it) 1 >>= _) _ _ _
 refine wpAny_bind (wpAny_field (x:=Value.int i 0) hoi hdi rfl (wpAny_bind (wpAny_seqItems hol hdl ?_)))
 simp only [Int.toNat_natCast,hx]
 refine wpAny_bind (wpAny_rule (wpAny_bind (wpAny_setField hoi hdi (by simp) (stopH (A:=A.in1) hh (nc.upd hne) fun g e kk he=>?_))))
 refine wpAny_bind (wpAny_isInstance (T:="StopIteration") (b:=true) he isSubtype_stop (wpAny_pure (hQ g fun b ob nb z=>kk b ob ?_)))
 exact(Heap.get?_update_other _ _ (Ne.symm nb)).trans z
theorem nextOf_endH {it l h:Addr} {i:Nat} {items:Array Value} {Q:Value->Shared->Prop} (hh:A.handled=some (.ref h)) (hit:s.heap.IsListIter it l i) (hl:s.heap.IsList l items) (hx:items[i]?=none) (nc:NoCtx h s.heap) (hne:h≠it)
  (hE:∀h' e,Heap.ExtBut it s.heap h'->(∃o,h'.get? e=some o/\o.cls=.type "StopIteration")->E (.ref e) { s with heap:=h' }):wpAny (model prog w) A (Builtin.SmallTypes.nextOf (.ref it)) Q E s:=by
 unfold Builtin.SmallTypes.nextOf
 exact wpAny_bind (wpAny_callSpecial?_slot (name:=Str.ofString "__next__") hit.typeIs slot_listiter_next (wpAny_call_entry slot_listiter_next hit.typeIs entry_listiter_next (AaA (A:=A.in1) hh hit hl hx nc hne hE) (args_listiter_next _)))
end
section
variable {prog:Program} {w:World} {A:Around} {E:Value->Shared->Prop} {s:Shared} {h₀:Heap} {L l h:Addr} {m:Str->Option Value} {news:List (Addr × Obj)} {vs:List Value}
end
end Hd
namespace L2
open PySem PySem.Spec PyProof.Rows
structure gX (k:Nat) (A:Around) (h:Addr):Prop where
 hd:A.handled=some (.ref h)
 dp:A.depth+3 * k+5<recursionLimit
 un:A.units+16 * k+200<cLine
theorem gX.mono {j k:Nat} {A:Around} {h:Addr} (r:gX k A h) (e:j<=k):gX j A h:=⟨r.hd,by have:=r.dp;omega,by have:=r.un;omega⟩
theorem gX.deeper {k:Nat} {A:Around} {h:Addr} (r:gX (k+1) A h) (env:Env):gX k (A.deeper env) h:=
 ⟨r.hd,by have:=r.dp;show A.depth+1+3 * k+5<_;omega,by have:=r.un;show A.units+3+16 * k+200<_;omega⟩
theorem eS.suite {k:Nat} {A:Around} (r:eS k A) (h:Addr):gX k (A.mark (some (.ref h))) h:=⟨rfl,r.dp,r.un⟩
structure nJ (P:Program) (w:World) (K:PySem.W.Frag) (mg:Str->Option Value) (base:Heap) (k:Nat) (f:Addr) (fd:FuncData) (ps:List Str) (sp:Addr->Sp):Prop where
 len:∀h vs H Q E,sp h vs H Q E->vs.length=ps.length
 run:∀(A:Around) (outer:List Env) (s:Shared) (H:Hp) (args:Args) (us:List Value) (vs:List V) (Q:VK) (h:Addr),gX k A h->Env0 P w K mg base A outer s H->BindsTo s fd args (ps.zip us)->bY vs us->sp h vs H Q E0 ->
  codeAny (model P w) A (.call (.ref f) args) (CR CX0 outer P w H s Q E0) s
abbrev cxH (P:Program) (w:World) (K:PySem.W.Frag) (mg:Str->Option Value) (base:Heap) (N:List Str) (qual:Str) (scope:Scope) (f:Addr) (cd:Value) (A:Around) (outer:List Env) (s:Shared) (H:Hp):Cx:=
 { iS CX0 P w K mg base N qual scope f cd A outer s H E0 with calm:=false,xe:=fun _ _=>False }
theorem fn_ofH {P:Program} {w:World} {K:PySem.W.Frag} {mg:Str->Option Value} {base:Heap} {k:Nat} {f:Addr} {name qual:Str} {params:Arguments} {body:List Stmt} {scope:Scope} {dV kV doc pm cdv ct oc:Value} {an od:Option Addr}
  {osl:Array (Option Value)} {N ps:List Str} {sp:Addr->Sp} (lk:K.lookup f=some ⟨oc,od,.func (PySem.W.fnOf name qual params body scope dV kV doc pm an cdv ct),osl⟩) (hcd:PySem.W.codeIn K cdv qual=true) (S:bO N ps scope)
  (len:∀h vs H Q E,sp h vs H Q E->vs.length=ps.length)
  (hbody:∀(A:Around) (outer:List Env) (s:Shared) (H:Hp) (vs:List V) (Q:VK) (h:Addr),gX k (A.deeper (envOfC qual scope s.heap.objs.size f cdv)) h->sp h vs H Q E0 ->
   ∃t,PSs (cxH P w K mg base N qual scope f cdv A outer s H) body t/\t { nx:=fun _ H'=>Q .non H',rt:=Q } (dD N vs) H):
  nJ P w K mg base (k+1) f (PySem.W.fnOf name qual params body scope dV kV doc pm an cdv ct) ps sp:=by
 refine⟨len,fun A outer s H args us vs Q h hr e0 hb r hsp=>?_⟩
 have hl:=len _ _ _ _ _ hsp
 have KX:K.In s.heap:=e0.mod.kin.keeps fun b o e=>(e0.bs b o e).1
 have lim:s.heap.NoLimit:=e0.mod.nolimit.keeps fun b o e=>(e0.bs b o e).1
 have hkind:∀y ∈ ps.zip us,scope.names.lookup y.1=some .local\/(scope.names.lookup y.1=some .cell/\((cellsFrom (s.heap.objs.size+1) scope.names []).lookup y.1).isSome=true):=fun⟨n,v⟩ hy=>by
  rcases S.par n (List.of_mem_zip hy).1 with q|q
  ·exact .inl q
  ·exact .inr ⟨q,PySem.W.cellsFrom_some _ _ _ (.inl q)⟩
 refine codeAny_call_function (by have:=hr.dp;omega) (KX _ _ lk) rfl S.co S.gen rfl (PySem.W.codeRec_of KX hcd) (hb _ _ _ _ ?_)
 refine wpAny_newFunctionEnv_cells S.kind hkind fun env he s1 x=>?_
 subst he
 refine⟨lim.keeps x.toInCall.keep,codeAny_func ?_⟩
 obtain⟨t,ht,hq⟩:=hbody A outer s H vs Q h (hr.deeper _) hsp
 have e1:Env0 P w K mg base { A with handled:=none } outer s H:=⟨e0.frames,e0.mod,e0.bs,e0.bsz,e0.funs,e0.frf,e0.hok,e0.bare⟩
 have I0:Inv (iS CX0 P w K mg base N qual scope f cdv { A with handled:=none } outer s H E0) [] (dD N vs) H s1:=oV S rfl e1 hl r x
 have ok:(cxH P w K mg base N qual scope f cdv A outer s H).Ok:=
  let ok:=I0.ok
  ⟨ok.mod,ok.kind,ok.glob,ok.blt,ok.above,ok.inj,ok.has,ok.cab,fun z=>(nomatch z),Around.frames_deeper e0.frames,ok.stk,ok.exf,ok.bs,ok.bsz,ok.noex,ok.exfs,ok.funs,ok.frf⟩
 have I:Inv (cxH P w K mg base N qual scope f cdv A outer s H) [] (dD N vs) H s1:=I0.re ok rfl rfl rfl rfl rfl rfl rfl rfl fun p z=>z
 refine wpAny_mono (ht s1 (dD N vs) H _ I hq) (fun fl s' hs=>?_) fun e s' hs=>hs.elim
 have fin:∀{σ':St} {H':Hp} {v:V} {u:Value},Inv (cxH P w K mg base N qual scope f cdv A outer s H) [] σ' H' s'->cJ v u->Q v H'->CE outer P w H s Q u s':=
  fun {σ' H' v u} J rv q=>⟨v,H',J.os,J.bare,J.base,J.hok,rv,q⟩
 cases fl with
 | ret u=>
  obtain⟨v,σ',H',J,rv,q⟩:=hs
  exact fin J rv q
 | next=>
  obtain⟨σ',H',J,q⟩:=hs
  exact fin (v:=V.non) (u:=Value.none) J rfl q
 | brk=>
  obtain⟨_,_,_,q⟩:=hs
  exact False.elim q
 | cont=>
  obtain⟨_,_,_,q⟩:=hs
  exact False.elim q
theorem Fun.okH {P:Program} {w:World} {K:PySem.W.Frag} {mg:Str->Option Value} {base:Heap} {x qual:Str} {st:Stmt} {f:Addr} {fd:FuncData} {N ps:List Str} {k:Nat} {sp:Addr->Sp} (F:Fun K x qual st f fd) (S:bO N ps (aM st)) (len:∀h vs H Q E,sp h vs H Q E->vs.length=ps.length)
  (hbody:∀(cdv:Value) (A:Around) (outer:List Env) (s:Shared) (H:Hp) (vs:List V) (Q:VK) (h:Addr),gX k (A.deeper (envOfC qual (aM st) s.heap.objs.size f cdv)) h->sp h vs H Q E0 ->
   ∃t,PSs (cxH P w K mg base N qual (aM st) f cdv A outer s H) (dA st) t/\t { nx:=fun _ H'=>Q .non H',rt:=Q } (dD N vs) H):nJ P w K mg base (k+1) f fd ps sp:=by
 obtain⟨oc,od,kV,doc,pm,an,cdv,ct,osl,rfl,lk,hcd⟩:=F.ex
 exact fn_ofH lk hcd S len fun A outer s H vs Q h hr hsp=>hbody cdv A outer s H vs Q h hr hsp
section
variable {X:Cx} {k:Nat} {f h:Addr} {fd:FuncData} {ps:List Str} {sp:Addr->Sp} {dvs:List V} {ds:List Value} {x:Str} {p pos:Pos} {e:Expr} {es:List Expr} {t:TA}
theorem run_fnH {pins:List (Addr × Obj)} {σ:St} {H:Hp} {s:Shared} {Q:VK} {us:List Value} {vs:List V} (F:nJ X.prog X.w X.K X.mg X.base k f fd ps sp) (hr:gX k X.A h) (hb:bV X.K fd ps ds) (hd:bY dvs ds)
  (I:Inv X pins σ H s) (r:bY vs us) (q:sp h (vs++dvs) H Q E0):wpAny (model X.prog X.w) X.A (call (.ref f) us) (EP X pins σ Q) X.xe s:=by
 have r2:bY (vs++dvs) (us++ds):=r.append hd
 have hl:(us++ds).length=ps.length:=by rw [<- r2.length];exact F.len _ _ _ _ _ q
 refine wpAny_call (codeAny_mono (F.run X.A X.stack s H ⟨us,[]⟩ (us++ds) (vs++dvs) Q h hr I.env0 (hb s us I.kIn hl) r2 q) fun r s' hq=>?_)
 cases r with
 | error e=>exact aX pins σ H s e s' I hq
 | ok fl=>
  cases fl with
  | ret u=>exact I.after hq
  | next=>exact False.elim hq
  | brk=>exact False.elim hq
  | cont=>exact False.elim hq
theorem zC (F:nJ X.prog X.w X.K X.mg X.base k f fd ps sp) (hr:gX k X.A h) (hg:Gl X x) (hm:X.mg x=some (.ref f)) (hk:PySem.W.keepIn X.K (.ref f)=true) (hb:bV X.K fd ps ds) (hd:bY dvs ds)
  (ha:PA X (e::es) t) (hdb:(x == ("__debug__":Str))=false:=by decide) (he:starEach (e::es) X.env=(false,eval e X.env)::starEach es X.env:=by rfl) (hpl:(backTo pos (starEach es X.env)).any (·.1)=false:=by rfl):
  PE X (.Call (.Name x p) (e::es) [] pos) (nY (sp h) dvs E0 t):=by
 intro pins s σ H Q I q
 refine wpAny_Call_Name_kw (gT I hg hm ?_ hdb)
 refine PySem.W.callWith_K (h₀:=X.base) I.ok.mod.kin hk (thn (ha pins s σ H _ I q) fun us s1 ⟨vs,H1,I1,r,q⟩=>⟨I1.kIn,?_⟩) he hpl
 exact run_fnH F hr hb hd I1 r q
end
def Le (σw σ:St):Prop:=∀(i:Nat) v,σw[i]?=some (some v)->σ[i]?=some (some v)
theorem Le.refl (σ:St):Le σ σ:=fun _ _ z=>z
def rA (CX:CXT) (X:Cx) (σw:St) (E:XK):Prop:=∀(pins:List (Addr × Obj)) (σ:St) (H:Hp) (s:Shared) (e:Value) (s':Shared),Le σw σ->Inv X pins σ H s->CX X.stack H s E e s'->X.xe e s'
def tKeep (σw:St) (t:TE):TE:=fun σ H Q=>Le σw σ/\t σ H Q
def tryEK (K:PySem.W.Frag) (cv:Value) (i:Nat) (σw:St) (ts:Addr->TS) (D:jV):XK:=fun cls _ H=>∃C,cls=.ref C/\PySem.W.exmOne K cls cv=some true /\
 ∀ea,H ea=none->ts ea { nx:=fun σ H'=>D.nx (σ.set i none) H',rt:=D.rt,bk:=fun σ H'=>D.bk (σ.set i none) H',ct:=fun σ H'=>D.ct (σ.set i none) H' } (σw.set i (some (.ref ea))) (upd H ea (iQ ea C))
def tTryK (tb:XK->St->TS) (K:PySem.W.Frag) (cv:Value) (i:Nat) (wk:St->St) (ts:Addr->TS):TS:=fun D σ H=>tb (tryEK K cv i (wk σ) ts D) (wk σ) D σ H
section
variable {X:Cx} {CX:CXT} {k:Nat} {f C:Addr} {fd:FuncData} {ps:List Str} {sp:Sp} {dvs:List V} {ds:List Value} {E:XK} {x m:Str} {p pos apos:Pos} {e o:Expr} {es:List Expr} {ta:TE} {t:TA} {σw:St}
theorem yJ {pins:List (Addr × Obj)} {σ:St} {H:Hp} {s:Shared} {Q:VK} {us:List Value} {vs:List V} (F:aY X.prog X.w X.K X.mg X.base CX k f fd ps sp) (hr:eS k X.A) (hb:bV X.K fd ps ds) (hd:bY dvs ds) (hx:rA CX X σw E) (le:Le σw σ)
  (I:Inv X pins σ H s) (r:bY vs us) (q:sp (vs++dvs) H Q E):wpAny (model X.prog X.w) X.A (call (.ref f) us) (EP X pins σ Q) X.xe s:=by
 have r2:bY (vs++dvs) (us++ds):=r.append hd
 have hl:(us++ds).length=ps.length:=by rw [<- r2.length];exact F.len _ _ _ _ q
 refine wpAny_call (codeAny_mono (F.run X.A X.stack s H ⟨us,[]⟩ (us++ds) (vs++dvs) Q E hr I.env0 (hb s us I.kIn hl) r2 q) fun r s' hq=>?_)
 cases r with
 | error e=>exact hx pins σ H s e s' le I hq
 | ok fl=>
  cases fl with
  | ret u=>exact I.after hq
  | next=>exact hq.elim
  | brk=>exact hq.elim
  | cont=>exact hq.elim
theorem xI (F:aY X.prog X.w X.K X.mg X.base CX k f fd ps sp) (hr:eS k X.A) (hg:Gl X x) (hm:X.mg x=some (.ref f)) (hk:PySem.W.keepIn X.K (.ref f)=true) (hb:bV X.K fd ps ds) (hd:bY dvs ds) (hx:rA CX X σw E)
  (ha:PA X (e::es) t) (hdb:(x == ("__debug__":Str))=false:=by decide) (he:starEach (e::es) X.env=(false,eval e X.env)::starEach es X.env:=by rfl) (hpl:(backTo pos (starEach es X.env)).any (·.1)=false:=by rfl):
  PE X (.Call (.Name x p) (e::es) [] pos) (tKeep σw (nY sp dvs E t)):=by
 intro pins s σ H Q I ⟨le,q⟩
 refine wpAny_Call_Name_kw (gT I hg hm ?_ hdb)
 refine PySem.W.callWith_K (h₀:=X.base) I.ok.mod.kin hk (thn (ha pins s σ H _ I q) fun us s1 ⟨vs,H1,I1,r,q⟩=>⟨I1.kIn,?_⟩) he hpl
 exact yJ F hr hb hd hx le I1 r q
theorem ps_tryK {body:List Stmt} {b₀:Stmt} {suite:List Stmt} {x n:Str} {np hpos pos:Pos} {i:Nat} {tb:XK->St->TS} {ts:Addr->TS} {wk:St->St} {cv:Value} (hw:∀ σ,σ.length=X.N.length->(wk σ).length=X.N.length/\Le (wk σ) σ) (hnx:X.xe=fun _ _=>False) (hN:X.N.Nodup) (hi:X.N[i]?=some n) (hx:X.env.scope.names.lookup n=some .local)
  (hst:X.stack=X.env::X.outer/\X.env.frame=some X.env.locals) (hg:Gl X x) (hm:X.mg x=some cv)
  (hb:∀(pn:List (Addr × Obj)) (xe:Value->Shared->Prop) (E:XK) (σw:St),rA (CXE X.prog X.w) (X.try_ pn xe) σw E->PSs (X.try_ pn xe) body (tb E σw))
  (hs:∀ea,PSs (X.suite (.ref ea)) (b₀::suite) (ts ea)) (hd:(x == ("__debug__":Str))=false:=by decide):
  PS X (.Try body [.ExceptHandler (some (.Name x np)) (some n) (b₀::suite) hpos] [] [] pos) (tTryK tb X.K cv i wk ts):=by
 intro pins s σ H D I h
 rw [hnx]
 refine wpAny_Try_except ?_
 refine wpAny_mono (hb (X.pn++pins) (fun e s'=>∃pins' σ' H0 s0,Le (wk σ) σ'/\Inv (X.try_ (X.pn++pins) fun _ _=>False) pins' σ' H0 s0/\CXE X.prog X.w X.stack H0 s0 (tryEK X.K cv i (wk σ) ts D) e s') _ _
  (fun pins' σ' H0 s0 e s' le J hc=>⟨pins',σ',H0,s0,le,J.re (J.ok.try_ _ _) rfl rfl rfl rfl rfl rfl rfl rfl fun p z=>z,hc⟩) (pins:=[]) s σ H D
  (I.re (I.ok.try_ _ _) rfl rfl rfl rfl rfl rfl rfl rfl fun p z=>by simpa using z) h) (fun f s1 q=>?_) fun e s1 q=>?_
 ·have back:SP X pins D f s1:=by
   cases f with
   | next=>obtain⟨σ',H',J,q⟩:=q;exact⟨σ',H',J.re I.ok rfl rfl rfl rfl rfl rfl rfl rfl fun p z=>by simpa using z,q⟩
   | brk=>obtain⟨σ',H',J,q⟩:=q;exact⟨σ',H',J.re I.ok rfl rfl rfl rfl rfl rfl rfl rfl fun p z=>by simpa using z,q⟩
   | cont=>obtain⟨σ',H',J,q⟩:=q;exact⟨σ',H',J.re I.ok rfl rfl rfl rfl rfl rfl rfl rfl fun p z=>by simpa using z,q⟩
   | ret u=>obtain⟨v,σ',H',J,r,q⟩:=q;exact⟨v,σ',H',J.re I.ok rfl rfl rfl rfl rfl rfl rfl rfl fun p z=>by simpa using z,r,q⟩
  cases f with
  | next=>exact wpAny_execs_nil back
  | brk=>exact back
  | cont=>exact back
  | ret u=>exact back
 ·obtain⟨pins',σ',H0,s0,le,J,ea,cls,a0,H',B,rfl,os,bare,F,C,rfl,hex,hsu⟩:=q
  have fr:X.A.frames=some (X.env::X.outer):=by rw [<- hst.1];exact I.ok.frames
  have F':=F
  rw [hst.1] at F'
  refine Hd.look2 fr hst.2 F'.fly F'.nc fun h4 held up4 nc4=>?_
  refine Hd.land2 held nc4 fun h5 fl5 up5 nc5=>?_
  have F5:=F'.later fl5 nc5 (up4.trans up5)
  have mkI:∀(hh:Heap),Fly X.prog X.w (X.env::X.outer) H0 s0.heap ea (.ref C) a0 H' B hh->Inv (X.suite (.ref ea)) (X.pn++pins) (wk σ) (upd H' ea (iQ ea C)) { s1 with heap:=hh }:=fun hh FF=>by
   obtain⟨un,hok⟩:=FF.laid
   rw [<- hst.1] at un
   have J1:Inv (X.try_ (X.pn++pins) fun _ _=>False) pins' σ' (upd H' ea (iQ ea C)) { s1 with heap:=hh }:=
    J.call' (s':={ s1 with heap:=hh }) os un hok bare (fun b z=>absurd z (by simp))
   have J2:Inv (X.suite (.ref ea)) (X.pn++pins) σ' (upd H' ea (iQ ea C)) { s1 with heap:=hh }:=J1.re (I.ok.suite _) rfl rfl rfl rfl rfl rfl rfl rfl fun p z=>by
    rcases List.mem_append.mp z with z|z
    ·exact List.mem_append_left _ (List.mem_append_left _ z)
    ·exact List.mem_append_left _ z
   exact J2.weak (by rw [(hw σ I.len).1,J2.len]) le
  have I5:=mkI h5 F5
  have up5':=up4.trans up5
  refine wpAny_handleBy_cons (codeAny_handlers_test (env:=X.env) (gT (X:=X.suite (.ref ea)) I5 hg hm ?_ hd)) (by intro z;cases z)
  have Lm:PySem.W.Looks (model X.prog X.w) h5 (excMatches (.ref ea) cv) true:=by
   refine PySem.W.exm_one I5.kIn ?_ hex
   obtain⟨o,z,c⟩:=fl5.there
   exact iW.ty ⟨o,z,c⟩
  refine Lm.at ?_
  refine codeAny_handlers_suite_as ?_
  refine Hd.again2 fl5 nc5 fun h6 fl6 up6 nc6=>?_
  have I6:=mkI h6 (F5.later fl6 nc6 up6)
  refine lR (X:=X.suite (.ref ea)) I6 hN hi (Or.inl hx) (v:=.ref ea) rfl (fun s7 I7=>?_) (.inr hx)
  refine wpAny_mono (hs ea s7 _ _ { nx:=fun σ H'=>D.nx (σ.set i none) H',rt:=D.rt,bk:=fun σ H'=>D.bk (σ.set i none) H',ct:=fun σ H'=>D.ct (σ.set i none) H' } I7 (hsu ea F.freeE)) (fun f s8 q=>?_) fun _ _ z=>z.elim
  have bk:∀{σ8:St} {H8:Hp} {s9:Shared},Inv (X.suite (.ref ea)) (X.pn++pins) σ8 H8 s9->Inv X pins σ8 H8 s9:=fun J=>J.re I.ok rfl rfl rfl rfl rfl rfl rfl rfl fun p z=>by
   rcases List.mem_append.mp z with z|z
   ·exact List.mem_append_left _ z
   ·exact List.mem_append_right _ (List.mem_append_right _ z)
  cases f with
  | next=>obtain⟨σ8,H8,I8,q⟩:=q;exact iL (bk I8) hN hi hx fun s9 I9=>⟨_,H8,I9,q⟩
  | brk=>obtain⟨σ8,H8,I8,q⟩:=q;exact iL (bk I8) hN hi hx fun s9 I9=>⟨_,H8,I9,q⟩
  | cont=>obtain⟨σ8,H8,I8,q⟩:=q;exact iL (bk I8) hN hi hx fun s9 I9=>⟨_,H8,I9,q⟩
  | ret u=>obtain⟨v,σ8,H8,I8,r,q⟩:=q;exact iL (bk I8) hN hi hx fun s9 I9=>⟨v,_,H8,I9,r,q⟩
end
end L2
namespace L2
open PySem PySem.Spec PyProof.Rows PySem.W
structure ZipL (hp:Heap) (z p q i j l m:Addr) (k:Nat):Prop where
 zp:IsZip hp z p q .none
 pp:IsPair hp p (.ref i) (.ref j)
 qp:∃u v,IsPair hp q u v
 ii:hp.IsListIter i l k
 jj:hp.IsListIter j m k
section
variable {prog:Program} {w:World} {A:Around} {E:Value->Shared->Prop} {s:Shared}
theorem yC {z p q i j l m h:Addr} {k:Nat} {xs:Array Value} {Q:Option Value->Shared->Prop} (hh:A.handled=some (.ref h)) (nc:Hd.NoCtx h s.heap) (nzi:z≠i) (nzl:z≠l) (nzh:z≠h) (nih:h≠i) (Z:ZipL s.heap z p q i j l m k) (hl:s.heap.IsList l xs) (hx:xs[k]?=none)
  (hQ:∀g,(∀c o,c≠z->c≠i->s.heap.get? c=some o->g.get? c=some o)->Q none { s with heap:=g }):wpAny (model prog w) A (pyNext (.ref z)) Q E s:=by
 obtain⟨hz,hp,⟨u,v,hq⟩,h1,h2⟩:=Z
 obtain⟨oh,fs,n1,n2,n3⟩:=nc
 have hT:s.TypeIs (.ref z) "zip":=⟨_,hz,rfl⟩
 unfold pyNext
 refine wpAny_bind (wpAny_attempt (wpAny_callSpecial?_slot hT F.slot_zip_next (wpAny_call_entry F.slot_zip_next hT F.entry_zip_next ?_ (F.args_zip_next_1 _))))
 show wpAny _ _ (field (Value.ref z) 2 >>= _) _ _ _
 refine wpAny_bind (wpAny_field (x:=Value.bool false) hz rfl rfl ?_)
 show wpAny _ _ (field (Value.ref z) 3 >>= _) _ _ _
 refine wpAny_bind (wpAny_field (x:=Value.ref p) hz rfl rfl (wpAny_bind (wpAny_seqItems hp rfl ?_)))
 show wpAny _ _ (Builtin.SmallTypes.ownedTupleIsFree (Value.ref z) >>= _) _ _ _
 unfold Builtin.SmallTypes.ownedTupleIsFree
 refine wpAny_bind (wpAny_bind (wpAny_field (x:=Value.none) hz rfl rfl (wpAny_pure ?_)))
 simp only [if_true]
 refine wpAny_bind (wpAny_rule (wpAny_bind (wpAny_field (x:=Value.ref q) hz rfl rfl ?_)))
 refine wpAny_bind (wpAny_setField_rec hz (by simp) fun g1 z1 b1=>?_)
 have z1':IsZip g1 z p q .ellipsis:=z1
 refine wpAny_bind ?_
 simp only [List.zipIdx_cons,List.zipIdx_nil,List.forIn_cons,List.forIn_nil]
 refine wpAny_bind (wpAny_bind (wpAny_onRaise ?_))
 show wpAny _ _ (Builtin.SmallTypes.nextOf (Value.ref i) >>= _) _ _ _
 have e1:∀c o,c≠z->s.heap.get? c=some o->g1.get? c=some o:=fun c o n e=>(b1.2 c n).trans e
 refine wpAny_bind (Hd.nextOf_endH (A:=A.in1) hh (h1.at fun o e=>e1 _ o nzi.symm e) (hl.at fun o e=>e1 _ o nzl.symm e) hx ⟨oh,fs,e1 _ _ nzh.symm n1,n2,n3⟩ nih fun g2 ea b2 ⟨oe,h3,h4⟩=>?_)
 have z2:IsZip g2 z p q .ellipsis:=b2 _ _ nzi z1'
 have ne:ea≠z:=fun y=>by
  rw [y,z2] at h3
  cases h3
  simp at h4
 refine wpAny_setField_rec z2 (by simp) fun g3 _ b3=>?_
 refine wpAny_bind (wpAny_isInstance (T:="StopIteration") (b:=true) ⟨oe,(b3.2 _ ne).trans h3,h4⟩ isSubtype_stop ?_)
 exact wpAny_pure (hQ g3 fun c o n n' e=>(b3.2 c n).trans (b2 _ _ n' (e1 c o n e)))
end
def ItzH (h C l m:Addr):It:=
 ⟨fun i H=>∃xs ys x y,H l=some (.lst xs)/\H m=some (.lst ys)/\xs[i]?=some x/\ys[i]?=some y,
 fun i H v H'=>∃T x y,H T=none/\v=.ref T/\H'=upd H T (.tup [x,y])/\(∀xs,H l=some (.lst xs)->xs[i]?=some x)/\∀ys,H m=some (.lst ys)->ys[i]?=some y,
 fun i H=>H h=some (iQ h C)/\∃xs,H l=some (.lst xs)/\xs.length<=i⟩
theorem wY {P:Program} {hd0:Option Value} {w:World} {K:PySem.W.Frag} {elts:List Expr} {k1:Nat} {pos:Pos} {z p q i j l m h C:Addr} (d:z≠p/\z≠q/\z≠i/\z≠j/\p≠q/\p≠i/\p≠j/\q≠i/\q≠j/\i≠j) (e0:hd0=some (.ref h)):
  tL P w K hd0 (.Tuple elts k1 pos) (ItzH h C l m) [z,p,q,i,j] z (fun k hp=>ZipL hp z p q i j l m k) where
 mem:=by simp
 obj:=fun k hp ⟨h1,h2,⟨u,v,h3⟩,⟨o1,h4,_,h4d⟩,⟨o2,h5,_,h5d⟩⟩ b hb=>by
  simp only [List.mem_cons,List.not_mem_nil,or_false] at hb
  rcases hb with rfl|rfl|rfl|rfl|rfl
  ·exact⟨_,h1,fun v z=>by cases z⟩
  ·exact⟨_,h2,fun v z=>by cases z⟩
  ·exact⟨_,h3,fun v z=>by cases z⟩
  ·exact⟨_,h4,fun v z=>by rw [h4d] at z;cases z⟩
  ·exact⟨_,h5,fun v z=>by rw [h5d] at z;cases z⟩
 keep:=fun k hp hp' ⟨h1,h2,⟨u,v,h3⟩,h4,h5⟩ kk=>⟨kk z (by simp) _ h1,kk p (by simp) _ h2,⟨u,v,kk q (by simp) _ h3⟩,h4.at fun o e=>kk i (by simp) o e,h5.at fun o e=>kk j (by simp) o e⟩
 item:=by
  intro X hP hw hK hc k pins s σ H E I hf st hg
  subst hP hw hK
  obtain⟨xs,ys,x,y,hl,hm,hx,hy⟩:=hg
  have ff:∀b ∈ [z,p,q,i,j],H b=none:=fun b hb=>(hf b hb).1
  have nl:∀b ∈ [z,p,q,i,j],l≠b:=fun b hb=>aL hl (ff b hb)
  have nm:∀b ∈ [z,p,q,i,j],m≠b:=fun b hb=>aL hm (ff b hb)
  obtain⟨a1,a2,a3,a4,a5,a6,a7,a8,a9,a0⟩:=d
  have N:ZipApart z p q i j l m:=⟨a1.symm,a2.symm,a3.symm,a4.symm,a5,a6,a7,a8,a9,a0,nl z (by simp),nl q (by simp),nl i (by simp),nl j (by simp),nm z (by simp),nm q (by simp),nm i (by simp),nm j (by simp)⟩
  obtain⟨_,its,n,r1,_,el⟩:=I.lstM hl
  obtain⟨_,its2,n2,r2,_,em⟩:=I.lstM hm
  obtain⟨u,hu,ru⟩:=r1.get hx
  obtain⟨v,hv,rv⟩:=r2.get hy
  obtain⟨hz,hp,⟨u',v',hq⟩,h1,h2⟩:=id st
  refine wpAny_pyNext_zip_item N hz hp hq h1 h2 (xs:=its.toArray) (ys:=its2.toArray) ⟨_,el,rfl,n,rfl⟩ ⟨_,em,rfl,n2,rfl⟩ (by simpa using hu) (by simpa using hv) fun g z1 q1 i1 j1 T1 sz kp=>⟨_,rfl,?_⟩
  refine wpAny_letOwnedTupleGo_zip z1 fun g2 z2 b2=>?_
  have zlt:z<s.heap.objs.size:=Heap.lt_size hz
  have T2:IsPair g2 s.heap.objs.size u v:=(b2.2 _ (Nat.ne_of_gt zlt)).trans T1
  have up:∀c o,c≠z->g.get? c=some o->g2.get? c=some o:=fun c o nc e=>(b2.2 c nc).trans e
  have k2:∀b o,b ∉ [z,p,q,i,j]->s.heap.get? b=some o->g2.get? b=some o:=fun b o hb e=>by
   have m1:b≠z:=fun y=>hb (by simp [y])
   exact up b o m1 (kp b o m1 (fun y=>hb (by simp [y])) (fun y=>hb (by simp [y])) (fun y=>hb (by simp [y])) e)
  have st2:ZipL g2 z p q i j l m (k+1):=⟨z2,up _ _ a1.symm (kp _ _ a1.symm a5 a6 a7 hp),⟨_,_,up _ _ a2.symm q1⟩,i1.at fun o e=>up _ o a3.symm e,j1.at fun o e=>up _ o a4.symm e⟩
  refine⟨.ref s.heap.objs.size,upd H s.heap.objs.size (.tup [x,y]),I.turnedL (tk:=s.toks) hf k2 (Nat.le_refl _) ⟨by show 2<=sizeLine;decide,[u,v],.cons ru (.cons rv .nil),⟨_,T2,rfl,_,rfl⟩⟩,rfl,⟨_,x,y,I.hok.fresh (Nat.le_refl _),rfl,rfl,(fun xs' h'=>by rw [hl] at h';cases h';exact hx),fun ys' h'=>by rw [hm] at h';cases h';exact hy⟩,st2,fun b hb=>?_⟩
  have lb:b<s.heap.objs.size:=by
   obtain⟨o1,h4,_⟩:=h1
   obtain⟨o2,h5,_⟩:=h2
   simp only [List.mem_cons,List.not_mem_nil,or_false] at hb
   rcases hb with rfl|rfl|rfl|rfl|rfl
   ·exact Heap.lt_size hz
   ·exact Heap.lt_size hp
   ·exact Heap.lt_size hq
   ·exact Heap.lt_size h4
   ·exact Heap.lt_size h5
  rw [aP (Nat.ne_of_lt lb)]
  exact ff b hb
 done:=by
  intro X hP hw hK hc k pins s σ H E I hf st hg
  subst hP hw hK
  obtain⟨he,xs,hl,hx⟩:=hg
  have ff:∀b ∈ [z,p,q,i,j],H b=none:=fun b hb=>(hf b hb).1
  obtain⟨_,its,n,r1,_,el⟩:=I.lstM hl
  have hlen:=r1.length
  obtain⟨a1,a2,a3,a4,_⟩:=d
  obtain⟨⟨_,nc⟩,_,_⟩:=I.hok h _ he
  exact yC (hc.trans e0) nc a3 (aL hl (ff z (by simp))).symm (aL he (ff z (by simp))).symm (aL he (ff i (by simp))) st (xs:=its.toArray) ⟨_,el,rfl,n,rfl⟩ (by simp;omega) fun g kk=>⟨rfl,I.turnedN (tk:=s.toks) hf fun b o hb e=>kk b o (fun y=>hb (by simp [y])) (fun y=>hb (by simp [y])) e⟩
 self:=fun _ _ _ _ _ st q=>wpAny_pyIter_zip st.zp q
section
variable {X:Cx}
def iZipH (h C:Addr) (ta:TA):TI:=fun σ H R=>ta σ H fun vs H1=>∃l m xs ys,vs=[.ref l,.ref m]/\H1 l=some (.lst xs)/\H1 m=some (.lst ys)/\R (ItzH h C l m) H1
theorem pi_zipH {h C:Addr} {a b:Expr} {ta:TA} {p pos tpos:Pos} {elts:List Expr} {k1:Nat} (hA:X.A.handled=some (.ref h)) (hg:Gl X "zip") (hm:X.mg "zip"=none) (ha:PA X [a,b] ta) (hs:starEach [a,b] X.env=[(false,eval a X.env),(false,eval b X.env)]:=by rfl) (hs2:starEach [b] X.env=[(false,eval b X.env)]:=by rfl):
  PI X (.Tuple elts k1 tpos) (.Call (.Name "zip" p) [a,b] [] pos) (iZipH h C ta):=by
 intro pins s σ H R I q0
 refine Call_ (iC I hg hm AaX (PyProof.Rows.callWith_type1 (thn (ha pins s σ H _ I q0) fun us s1 ⟨vs,H1,I1,r1,q1⟩=>?_) (by rw [hs,hs2]) (by rw [hs2];rfl)))
 obtain⟨l,t,xs,ys,rfl,hl,ht,q⟩:=q1
 obtain⟨u,v,rfl,ru,rv⟩:=vH r1
 cases ru
 cases rv
 obtain⟨_,its,n,_,_,el⟩:=I1.lstM hl
 obtain⟨_,its2,n2,_,_,em⟩:=I1.lstM ht
 refine call_zip_2 (xs:=its.toArray) (ys:=its2.toArray) ⟨_,el,rfl,n,rfl⟩ ⟨_,em,rfl,n2,rfl⟩ fun g z1 z2 z3 z4 z5 _ kp=>?_
 refine wpAny_pyIter_zip z1 ?_
 have I2:Inv X pins σ H1 { s1 with heap:=g }:=I1.kept (t':=s1.toks) kp
 refine⟨_,[s1.heap.objs.size+4,s1.heap.objs.size+2,s1.heap.objs.size+3,s1.heap.objs.size,s1.heap.objs.size+1],_,_,H1,rfl,I2,wY (C:=C) (l:=l) (m:=t) (five_ne _) hA,⟨z1,z2,⟨_,_,z3⟩,z4,z5⟩,fun b hb=>?_,q⟩
 have lb:s1.heap.objs.size<=b:=by
  simp only [List.mem_cons,List.not_mem_nil,or_false] at hb
  exact five_le _ _ hb
 exact I1.fpOk lb (I1.hok.fresh lb)
end
section
variable {prog:Program} {w:World} {A:Around} {E:Value->Shared->Prop} {s:Shared}
theorem unpackH {t h:Addr} {items:Array Value} {Q:List Value->Shared->Prop} (hh:A.handled=some (.ref h)) (nc:Hd.NoCtx h s.heap) (ht:IsTup s.heap t items)
  (hQ:∀g,Heap.ExtBut s.heap.objs.size s.heap g->Q items.toList { s with heap:=g }):wpAny (model prog w) A (unpackItems (.ref t) items.size none) Q E s:=by
 obtain⟨oh,fs,n1,n2⟩:=id nc
 have nt:t≠s.heap.objs.size:=by obtain⟨o,ho,_⟩:=ht;exact Nat.ne_of_lt (Heap.lt_size ho)
 have nh:h≠s.heap.objs.size:=Nat.ne_of_lt (Heap.lt_size n1)
 unfold unpackItems notIterableAtAll
 refine wpAny_bind (wpAny_bind (wpAny_specialOf ht.typeIs slot_tuple_iter.lookup (wpAny_pure ?_)))
 rw [if_neg (by simp)]
 refine wpAny_bind (wpAny_holding (iter_tuple ht (wpAny_bind (wpAny_holding (draw_tuple nt items.size 0 _ _ ⟨_,Heap.get?_push_size _ rfl,rfl,rfl⟩ (ht.push _) (by omega) fun g1 i1 b1=>?_)))))
 rw [List.drop_zero,List.take_of_length_le (by simp),if_neg (by simp)]
 refine wpAny_bind (wpAny_holding (Hd.tup_endH hh i1 ((ht.push _).extBut b1.extBut nt) (by simp) ⟨oh,fs,b1.extBut _ _ nh (Heap.get?_push_of_some _ n1),n2⟩ nh fun g2 b2=>?_))
 exact wpAny_pure (hQ g2 fun b o nb e=>b2 b o nb (b1.extBut b o nb (Heap.get?_push_of_some _ e)))
theorem assignH {env:Env} {elts:List Expr} {x1} {pos:Pos} {t h:Addr} {items:Array Value} {Q:Unit->Shared->Prop} (hh:A.handled=some (.ref h)) (nc:Hd.NoCtx h s.heap) (ht:IsTup s.heap t items)
  (hn:(assignEach elts env).length=items.size) (hstar:(assignEach elts env).findIdx? (·.1)=none)
  (q:∀g,Heap.ExtBut s.heap.objs.size s.heap g->wpAny (model prog w) A (assignInOrder ((assignEach elts env).map (·.2)) items.toList) Q E { s with heap:=g }):
  wpAny (model prog w) A (assign (.Tuple elts x1 pos) env (.ref t)) Q E s:=by
 rw [assign_Tuple]
 refine wpAny_bind (wpAny_standAt ?_)
 unfold unpack
 rw [hn,hstar]
 exact wpAny_bind (wpAny_holding (unpackH hh nc ht q))
end
section
variable {X:Cx} {pos:Pos}
def gTupH (K:PySem.W.Frag) (h C:Addr) (n:Nat) (t:TGs):TG:=fun v σ H Q=>H h=some (iQ h C)/\gTup K n t v σ H Q
theorem pg_tupH {h C:Addr} {es:List Expr} {k:Nat} {t:TGs} {n:Nat} (hA:X.A.handled=some (.ref h)) (hg:PGs X es t)
  (hn:(assignEach es X.env).length=n:=by rfl) (hst:(assignEach es X.env).findIdx? (·.1)=none:=by rfl):PG X (.Tuple es k pos) (gTupH X.K h C n t):=by
 intro pins s σ H v u Q I r hw
 obtain⟨he,a,xs,e1,hq,hl,hw⟩:=hw
 subst e1
 cases r
 obtain⟨⟨_,nc⟩,_,_⟩:=I.hok h _ he
 obtain⟨its,rv,ht,hz⟩:=I.tuple hq
 refine assignH hA nc ht (by simp [hn,<- hl,rv.length]) hst fun h' hx=>?_
 have J:Inv X pins σ H { s with heap:=h' }:=I.kept (t':=s.toks) fun b o e=>hx b o (Nat.ne_of_lt (Heap.lt_size e)) e
 exact hg _ σ H xs _ Q J (by simpa using rv) hw
end
end L2
namespace Lm
abbrev Ps:=List (Int × Int)
def Wk:Ps->Prop
 | []=>True
 | p::t=>p.1<p.2/\(∀q ∈ t,p.2<=q.1)/\Wk t
open Classical in
noncomputable def ind (P:Int->Prop) (x:Int):Int:=if P x then 1 else 0
noncomputable def cnt (P:Int->Prop) (lo:Int):Nat->Int
 | 0=>0
 | n+1=>cnt P lo n+ind P (lo+n)
end Lm
namespace Lt
open PySem L2 PySem.W
def top (i:Nat):Stmt:=PySem.Challenge.pw_lentwork_k36_texts_of_no_book.main.body.getD i (.Pass ⟨0,0,0,0⟩)
abbrev sWell:Stmt:=top 41
abbrev sDraw:Stmt:=top 42
abbrev sFar:Stmt:=top 43
abbrev sMake:Stmt:=top 44
abbrev sLims:Stmt:=top 45
abbrev sWord:Stmt:=top 46
abbrev sFree:Stmt:=top 47
abbrev uQ:Stmt:=top 48
abbrev uM:Stmt:=top 49
abbrev qC:Stmt:=top 28
abbrev uP:Stmt:=top 31
abbrev sNum:Stmt:=top 32
abbrev sNums:Stmt:=top 33
abbrev uH:Stmt:=top 34
abbrev uL:Stmt:=top 35
abbrev uK:Stmt:=top 36
abbrev uJ:Stmt:=top 37
abbrev sRows:Stmt:=top 38
abbrev sText:Stmt:=top 39
abbrev sLNum:Stmt:=top 51
abbrev uN:Stmt:=top 52
abbrev iZ:Stmt:=top 53
abbrev sLIsW:Stmt:=top 54
abbrev uO:Stmt:=top 55
abbrev jX:Stmt:=top 56
abbrev sSpW:Stmt:=top 57
abbrev sSpR:Stmt:=top 58
abbrev jW:Stmt:=top 59
abbrev uR:Stmt:=top 60
abbrev qD:Stmt:=top 61
abbrev qB:Stmt:=top 62
structure Gb (mg:Str->Option Value):Prop where
 str:mg "str"=none
 len:mg "len"=none
 int:mg "int"=none
 range:mg "range"=none
 tuple:mg "tuple"=none
 isi:mg "isinstance"=none
 bool:mg "bool"=none
 max:mg "max"=none
 min:mg "min"=none
 sum:mg "sum"=none
 list:mg "list"=none
 enum:mg "enumerate"=none
 all:mg "all"=none
theorem eX:bootBuiltins "tuple"=some (.type "tuple"):=by decide +kernel
theorem qW:bootBuiltins "str"=some (.type "str"):=by decide +kernel
theorem gU:bootBuiltins "int"=some (.type "int"):=by decide +kernel
def Bd (i:Int):Prop:=-1000000000000000000<i/\i<1000000000000000000
inductive dG:V->Prop where
 | int {i:Int} (h:Bd i):dG (.int i)
 | str {x:Str} (h:Tm.wdB x=true):dG (.str x)
def dY:V->Str
 | .int i=>Str.ofString (toString i)
 | .str x=>x
 | _=>Str.empty
theorem Bd.log {i:Int} (h:Bd i):i.natAbs.log2<1920:=by
 obtain⟨h1,h2⟩:=h
 have hn:i.natAbs<100000000000000000000:=by omega
 by_cases z:i.natAbs=0
 ·rw [z];decide
 ·rw [Nat.log2_lt z]
  exact Nat.lt_trans hn (by decide)
theorem Bd.len {i:Int} (h:Bd i):(Str.ofString (toString i)).length<=30:=by
 obtain⟨h1,h2⟩:=h
 by_cases z:0<=i
 ·exact Nat.le_trans (PyProof.Rows.toString_length_le z (k:=20) (by decide) (by omega)) (by decide)
 ·have e:=PyProof.Rows.toString_length_le (v:=0-i) (by omega) (k:=20) (by decide) (by omega)
  rw [PyProof.Rows.toString_neg (by omega),PySem.ofString_length,String.length_append]
  rw [PySem.ofString_length] at e
  have:"-".length=1:=by decide
  omega
theorem dG.len {v:V} (h:dG v):(dY v).length<=30:=by
 cases h with
 | int h=>exact h.len
 | str h=>exact(Tm.wd_iff.mp h).le
def rowT (xs:List V):Str:=Txt.join " " (xs.map dY)++"\n"
theorem tW {α:Type} (f:α->Nat) (b:Nat):∀(xs:List α),(∀x ∈ xs,f x<=b)->(xs.map f).sum<=xs.length * b
 | [],_=>by simp
 | x::xs,h=>by
  have h1:=h x (by simp)
  have h2:=tW f b xs fun y hy=>h y (by simp [hy])
  rw [List.map_cons,List.sum_cons,List.length_cons,Nat.succ_mul]
  omega
theorem oK {xs:List V} (h:∀v ∈ xs,dG v):((xs.map dY).map fun y=>y.length).sum<=xs.length * 30:=by
 have e:=tW (fun y:Str=>y.length) 30 (xs.map dY) fun y hy=>by
  obtain⟨v,hv,rfl⟩:=List.mem_map.mp hy
  exact(h v hv).len
 rw [List.length_map] at e
 exact e
theorem mY (z:Str) (ys:List Str):(Txt.join z ys).length<=(ys.map fun y=>y.length).sum+ys.length * z.length:=by
 have e:Txt.join z ys=z.join ys:=by
  exact StrLaws.glued_eq_join _ _
 rw [e]
 exact StrLaws.join_length_le _ _
theorem nd1 {x:Str}:[x].Nodup:=by simp
theorem dC {i:Nat} {v:V} {σ:St} {H:Hp} {Q:St->Hp->Prop} (h:Q (σ.set i (some v)) H):dS i v σ H Q:=h
theorem dH {σ:St} {H:Hp} {Q:Bool->Hp->Prop} (h:Q true H):tYes σ H Q:=h
section
variable {P:Program} {w:World} {K:PySem.W.Frag} {mg:Str->Option Value} {base:Heap}
theorem rP:(Str.ofString " ").length=1:=by decide +kernel
theorem yK:(Str.ofString "\n").length=1:=by decide +kernel
def rowRd (K:Frag) (i:Nat):TE:=tOp (fun x y H Q=>∃i j,x=V.str i/\y=V.str j/\i.length+j.length<=sizeLine/\Q (V.str (i++j)) H)
 (tBM K "str" (rJoin K) (tC (.str " ")) (gG (tComp 1 (iSeq K (hJ i)) (dS 0) tYes (tCB (fun xs H Q=>(∃i,xs=[.int i]/\i.natAbs.log2<1920/\Q (.str (toString i)) H)\/∃x,xs=[.str x]/\Q (.str x) H) (gG (hJ 0) kT))) kT)) (tC (.str "\n"))
theorem uS {i:Nat} {σ:St} {H:Hp} {Q:VK} {p:Addr} {xs:List V} (hσ:σ[i]?=some (some (.ref p))) (hp:SqL K H p xs\/H p=some (.tup xs)) (hl:xs.length<=100) (hx:∀v ∈ xs,dG v) (q:∀H',aV H H'->Q (.str (rowT xs)) H'):rowRd K i σ H Q:=by
 have fin:∀(H2:Hp) (acc:Addr),aV H H2->H2 acc=some (.lst ((xs.map dY).map V.str))->rJoin K (.str " ") [.ref acc] H2 fun v H1=>∃i j,v=.str i/\V.str "\n"=.str j/\i.length+j.length<=sizeLine/\Q (.str (i++j)) H1:=fun H2 acc sm ha=>by
  have hs:=oK hx
  have hj:=mY " " (xs.map dY)
  rw [rP,List.length_map] at hj
  refine⟨" ",acc,xs.map dY,rfl,rfl,SqL.of ha,?_,_,_,rfl,rfl,?_,q _ sm⟩
  ·rw [rP,List.length_map]
   omega
  ·rw [yK]
   have:sizeLine=16777216:=sizeLine_eq
   omega
 refine⟨rfl,_,hσ,p,rfl,Or.elim hp (fun hp=>.inl ⟨⟨_,hp⟩,?_⟩) (fun hp=>.inr ⟨⟨_,SqT.of hp⟩,?_⟩)⟩
 all_goals
  first
   | have hq:∀{H':Hp},aV H H'->SqL K H' p xs:=fun e=>e.seq hp
   | have hq:∀{H':Hp},aV H H'->SqT K H' p xs:=fun e=>SqT.of (e _ _ hp)
  refine fun acc hacc=>⟨fun i m ys H'=>m=xs.length-i/\i<=xs.length/\ys=((xs.take i).map dY).map V.str/\aV H H'/\H' acc=some (.lst ys),⟨_,rfl,Nat.zero_le _,rfl,aG hacc,aE⟩,?_⟩
  rintro i m ys H' ⟨rfl,hi,rfl,sm,ha⟩
  refine⟨ha,?_⟩
  by_cases hlt:i<xs.length
  ·refine .inr ⟨⟨xs,_,hq sm,List.getElem?_eq_getElem hlt⟩,?_⟩
   rintro y H'' ⟨rfl,hy⟩
   have ey:=hy xs (hq sm)
   have tk:xs.take (i+1)=xs.take i++[y]:=by
    rw [List.take_add_one,ey]
    rfl
   have nx:∀z:Str,z=dY y->H'' acc=some (.lst (((xs.take i).map dY).map V.str))/\(((xs.take i).map dY).map V.str).length<sizeLine/\∃m',m'<xs.length-i/\(m'=xs.length-(i+1)/\i+1<=xs.length/\((xs.take i).map dY).map V.str++[.str z]=((xs.take (i+1)).map dY).map V.str /\
     aV H (upd H'' acc (.lst (((xs.take i).map dY).map V.str++[.str z])))/\(upd H'' acc (.lst (((xs.take i).map dY).map V.str++[.str z]))) acc=some (.lst (((xs.take i).map dY).map V.str++[.str z]))):=fun z hz=>by
    subst hz
    refine⟨ha,?_,_,?_,rfl,hlt,?_,fun b o e=>?_,aE⟩
    ·rw [List.length_map,List.length_map,List.length_take]
     have:sizeLine=16777216:=sizeLine_eq
     omega
    ·omega
    ·rw [tk]
     simp
    ·rw [aP (aL e hacc)]
     exact sm b o e
   have ok:=hx y (List.mem_of_getElem? ey)
   refine dC ?_
   refine dH ?_
   refine cZ ?_
   cases ok with
   | int h=>exact⟨_,rfl,.inl ⟨_,rfl,h.log,nx _ rfl⟩⟩
   | str h=>exact⟨_,rfl,.inr ⟨_,rfl,nx _ rfl⟩⟩
  ·have ei:xs.take i=xs:=List.take_of_length_le (by omega)
   rw [ei] at ha
   exact .inl ⟨⟨xs,hq sm,by omega⟩,fin _ _ sm ha⟩
def PairAt (H:Hp) (v:V) (p:Int × Int):Prop:=∃b,v=.ref b/\H b=some (.tup [.int p.1,.int p.2])
theorem cA {α β:Type} {F G:α->β->Prop} (f:∀a b,F a b->G a b):∀{xs:List α} {ys:List β},Paired F xs ys->Paired G xs ys
 | _,_,.nil=>.nil
 | _,_,.cons r t=>.cons (f _ _ r) (cA f t)
theorem fG {α β:Type} {F:α->β->Prop}:∀{xs:List α} {ys:List β},Paired F xs ys->∀{i:Nat} {x:α},xs[i]?=some x->∃y,ys[i]?=some y/\F x y
 | _,_,.nil,i,x,h=>by simp at h
 | _,_,.cons r t,0,x,h=>by
  cases h
  exact⟨_,rfl,r⟩
 | _,_,.cons r t,i+1,x,h=>fG t (i:=i) h
def gB (H:Hp) (p:Addr) (ps:List (Int × Int)):Prop:=∃xs,H p=some (.tup xs)/\Paired (PairAt H) xs ps/\ps.length<=10/\∀q ∈ ps,Bd q.1/\Bd q.2
def nD (ps:List (Int × Int)):List V:=ps.flatMap fun q=>[.int q.1,.int q.2]
theorem jO (ps:List (Int × Int)):(nD ps).length=2 * ps.length:=by
 induction ps with
 | nil=>rfl
 | cons q ps ih=>
  show (nD (q::ps)).length=_
  rw [show nD (q::ps)=.int q.1::.int q.2::nD ps from rfl,List.length_cons,List.length_cons,ih,List.length_cons]
  omega
theorem xU (ps:List (Int × Int)) (q:Int × Int):nD (ps++[q])=nD ps++[.int q.1,.int q.2]:=by
 unfold nD
 rw [List.flatMap_append]
 rfl
theorem flat_ok {ps:List (Int × Int)} (h:∀q ∈ ps,Bd q.1/\Bd q.2):∀v ∈ nD ps,dG v:=fun v hv=>by
 obtain⟨q,hq,hv⟩:=List.mem_flatMap.mp hv
 rcases List.mem_cons.mp hv with rfl|hv
 ·exact .int (h q hq).1
 ·rcases List.mem_cons.mp hv with rfl|hv
  ·exact .int (h q hq).2
  ·exact absurd hv (by simp)
def oX (ps:List (Int × Int)) (a b c:Int):List V:=(.str "work"::nD ps)++[.str "span",.int a,.str "every",.int b,.str "least",.int c]
theorem wL {ps:List (Int × Int)} {a b c:Int} (h:∀q ∈ ps,Bd q.1/\Bd q.2) (ha:Bd a) (hb:Bd b) (hc:Bd c):∀v ∈ oX ps a b c,dG v:=fun v hv=>by
 rcases List.mem_append.mp hv with hv|hv
 ·rcases List.mem_cons.mp hv with rfl|hv
  ·exact .str (by decide +kernel)
  ·exact flat_ok h v hv
 ·simp only [List.mem_cons,List.not_mem_nil,or_false] at hv
  rcases hv with rfl|rfl|rfl|rfl|rfl|rfl
  ·exact .str (by decide +kernel)
  ·exact .int ha
  ·exact .str (by decide +kernel)
  ·exact .int hb
  ·exact .str (by decide +kernel)
  ·exact .int hc
def jG:Sp:=fun vs H Q _=>∃(p l:Addr) (ps:List (Int × Int)) (a b c:Int),vs=[.ref p,.ref l]/\gB H p ps/\H l=some (.tup [.int a,.int b,.int c])/\Bd a/\Bd b/\Bd c/\∀H',aV H H'->Q (.str (rowT (oX ps a b c))) H'
theorem iG:bO ["_law_work","_law_limits","_law_parts","_law_low","_law_high"] ["_law_work","_law_limits"] (aM uQ):=⟨rfl,rfl,rfl,by decide +kernel,rfl,by decide +kernel,by decide +kernel⟩
theorem zP {f:Addr} {fd:FuncData} (F:Fun K "_law_head" "_law_head" uQ f fd) (G:Gb mg):
  aY P w K mg base CX0 1 f fd ["_law_work","_law_limits"] jG:=by
 refine F.ok iG (fun vs H Q E h=>?_) (fun cdv A outer s H vs Q E hr h=>?_)
 ·obtain⟨p,l,ps,a,b,c,rfl,_⟩:=h
  rfl
 ·obtain⟨p,t,ps,a,b,c,rfl,hw,ht,ha,hb,hc,q⟩:=h
  refine⟨_,aD (aN (i:=2) iG.nd rfl (Or.inl rfl) (bU (aA aF aB)))
   (aD (gR PassesOwn.never rfl (qG (pv 0)) (qH rfl (dR (cC (i:=3) iG.nd rfl (Or.inl rfl)) (dR (cC (i:=4) iG.nd rfl (Or.inl rfl)) jK)))
    (aI (aN (i:=2) iG.nd rfl (Or.inl rfl) (aK cE (pv 2) (bU (aA (pv 3) (aA (pv 4) aB)))))))
   (aD (aN (i:=2) iG.nd rfl (Or.inl rfl) (aK cE (pv 2) (bU (aA aF (aA (aZ cK (pv 1) aC (fun _ _=>rfl)) (aA aF (aA (aZ cK (pv 1) aC (fun _ _=>rfl)) (aA aF (aA (aZ cK (pv 1) aC (fun _ _=>rfl)) aB)))))))))
   (aI (aT (aK dM (fU PySem.F.plainAttrs_str PySem.F.slot_str_join PySem.F.type_str_join jM aF (aA
   (lG (NB:=["_law_part"]) rfl (by decide +kernel) (by decide +kernel) (by decide +kernel) rfl (yW (pv 2)) (fun C s H fp pn=>cC (i:=0) nd1 rfl (Or.inl rfl) (.inr rfl)) (fun C s H fp pn=>dF)
    (fun C s H fp pn=>cF nG (by rfl) G.str qW (aA (pv 0) aB))) aB)) aF))))),?_⟩
  obtain⟨xs,hx,pr,hl,bd⟩:=hw
  have sl:sizeLine=16777216:=sizeLine_eq
  have lx:xs.length<=10:=by rw [pr.length];exact hl
  refine⟨by show 1<=sizeLine;decide,fun l hn=>?_⟩
  refine⟨_,rfl,p,rfl,⟨_,SqT.of (by rw [aP (aL hx hn)];exact hx)⟩,qO (K:=K) (a:=p) (xs:=xs) (fun i σ H2=>aV H H2/\∃l u v,H2 l=some (.lst (.str "work"::nD (ps.take i)))/\σ=[some (.ref p),some (.ref t),some (.ref l),u,v])
   ⟨aG hn,l,_,_,aE,rfl⟩ (fun i σ H2 _ ⟨e,_⟩=>SqT.of (e _ _ hx)) ?_ ?_⟩
  ·rintro i x σ H2 hi ⟨sm,l,u,v,hL,rfl⟩
   obtain⟨y,hy,b',rfl,hb'⟩:=fG pr hi
   have tk:ps.take (i+1)=ps.take i++[y]:=by
    rw [List.take_add_one,hy]
    rfl
   have il:i<xs.length:=(List.getElem?_eq_some_iff.mp hi).1
   refine⟨b',_,rfl,SqT.of (sm _ _ hb'),rfl,_,_,rfl,_,_,rfl,rfl,?_⟩
   refine⟨_,rfl,_,rfl,_,rfl,by show 2<=sizeLine;decide,fun l2 hn2=>?_⟩
   have ne:l≠l2:=aL hL hn2
   refine⟨l,l2,_,_,rfl,rfl,by rw [aP ne];exact hL,aE,?_,fun l3 hn3=>?_⟩
   ·rw [List.length_cons,jO,List.length_take]
    show 2 * min i ps.length+1+2<=sizeLine
    omega
   ·refine⟨sm.trans ((aG hn2).trans (aG hn3)),l3,_,_,?_,rfl⟩
    rw [aE,tk,xU]
    rfl
  ·rintro σ H2 ⟨sm,l,u,v,hL,rfl⟩
   have ei:ps.take xs.length=ps:=List.take_of_length_le (by rw [pr.length];exact Nat.le_refl _)
   rw [ei] at hL
   have ht2:=sm _ _ ht
   refine⟨_,rfl,_,rfl,t,_,_,_,rfl,rfl,SqT.of ht2,aJ (j:=0) rfl,_,rfl,t,_,_,_,rfl,rfl,SqT.of ht2,aJ (j:=1) rfl,_,rfl,t,_,_,_,rfl,rfl,SqT.of ht2,aJ (j:=2) rfl,by show 6<=sizeLine;decide,fun l2 hn2=>?_⟩
   have ne:l≠l2:=aL hL hn2
   refine⟨l,l2,_,_,rfl,rfl,by rw [aP ne];exact hL,aE,?_,fun l3 hn3=>?_⟩
   ·rw [List.length_cons,jO]
    show 2 * ps.length+1+6<=sizeLine
    omega
   ·refine uS (i:=2) (xs:=oX ps a b c) rfl (.inl (SqL.of aE)) ?_ (wL bd ha hb hc) fun H' e=>q _ (sm.trans ((aG hn2).trans ((aG hn3).trans e)))
    show ((.str "work"::nD ps)++[V.str "span",.int a,.str "every",.int b,.str "least",.int c]).length<=100
    rw [List.length_append,List.length_cons,jO]
    show 2 * ps.length+1+6<=100
    omega
def Wl (H:Hp) (w:Addr):Prop:=∃a b c:Int,H w=some (.lst [.int a,.int b,.int c])
structure Kp (w:Addr) (H H':Hp):Prop where
 at_:∀x o,x≠w->H x=some o->H' x=some o
 wl:Wl H' w
theorem Kp.refl {w:Addr} {H:Hp} (h:Wl H w):Kp w H H:=⟨fun _ _ _ e=>e,h⟩
theorem Kp.trans {w:Addr} {H H1 H2:Hp} (a:Kp w H H1) (b:Kp w H1 H2):Kp w H H2:=⟨fun x o n e=>b.at_ x o n (a.at_ x o n e),b.wl⟩
theorem Wl.ne {w p:Addr} {H:Hp} (h:Wl H w) (n:H p=none):w≠p:=by
 obtain⟨a,b,c,e⟩:=h
 exact aL e n
theorem Wl.same {w:Addr} {H H':Hp} (h:Wl H w) (e:aV H H'):Wl H' w:=by
 obtain⟨a,b,c,z⟩:=h
 exact⟨a,b,c,e _ _ z⟩
theorem Kp.same {w:Addr} {H H1 H2:Hp} (a:Kp w H H1) (e:aV H1 H2):Kp w H H2:=⟨fun x o n z=>e _ _ (a.at_ x o n z),a.wl.same e⟩
theorem Kp.tup {w x:Addr} {H H':Hp} {xs:List V} (k:Kp w H H') (hw:Wl H w) (e:H x=some (.tup xs)):H' x=some (.tup xs):=by
 obtain⟨a,b,c,z⟩:=hw
 exact k.at_ x _ (oO e z (by intro q;cases q)) e
def tX (K:Frag):Sp:=fun vs H Q _=>∃(a:Addr) (ns:List Int) (k:Nat),vs=[.ref a,.int k]/\SqL K H a (ns.map V.int)/\ns.length<=63/\∀w H',aV H H'->H w=none->Wl H' w->Q (.ref w) H'
def eD:Sp:=fun vs H Q _=>∃(w:Addr) (m:Int),vs=[.ref w,.int m]/\Wl H w/\0<m/\m<2 ^ 64/\∀r H',Kp w H H'->0<=r->r<m->Q (.int r) H'
def Bs (i:Int):Prop:=-1000000000000000000<i/\i<1000000000000000000
theorem Bs.bd {i:Int} (h:Bs i):Bd i:=h
def spFar:Sp:=fun vs H Q _=>∃(w:Addr),vs=[.ref w]/\Wl H w/\∀r H',Kp w H H'->Bs r->Q (.int r) H'
theorem sD {ns:List Int} {i:Int} (h0:0<=i) (h1:i<ns.length):∃z,z ∈ ns/\atI (ns.map V.int) i=some (.int z):=by
 obtain⟨k,rfl⟩:=Int.eq_ofNat_of_zero_le h0
 have hk:k<ns.length:=by omega
 exact⟨ns[k],List.getElem_mem hk,aJ (by rw [List.getElem?_map,List.getElem?_eq_getElem hk];rfl)⟩
theorem pick2 (x y:Int) (b:Bool):∃z,atI [V.int x,V.int y] (if b=true then 1 else 0)=some (V.int z):=by
 cases b
 ·exact⟨x,aJ (j:=0) rfl⟩
 ·exact⟨y,aJ (j:=1) rfl⟩
theorem uF:bO ["_law_script","_law_k","_law_cell"] ["_law_script","_law_k"] (aM sWell):=⟨rfl,rfl,rfl,by decide +kernel,rfl,by decide +kernel,by decide +kernel⟩
theorem ok_well {f:Addr} {fd:FuncData} (F:Fun K "_law_well" "_law_well" sWell f fd) (G:Gb mg):aY P w K mg base CX0 1 f fd ["_law_script","_law_k"] (tX K):=by
 refine F.ok uF (fun vs H Q E h=>?_) (fun cdv A outer s H vs Q E hr h=>?_)
 ·obtain⟨a,ns,k,rfl,_⟩:=h
  rfl
 ·obtain⟨a,ns,k,rfl,hS,hl,q⟩:=h
  refine⟨_,aD (aN (i:=2) uF.nd rfl (Or.inl rfl) aC)
   (aD (cB (aS iT (pv 1) (aO bJ (by rfl) G.len PySem.boot_len (aA (pv 0) aB)) (bF _)) (aI (aN (i:=2) uF.nd rfl (Or.inl rfl) (aZ aR (pv 0) (pv 1) (fun _ _=>rfl)))) aW)
   (aI (aT (bU (aA (aK cM (aK iA (pv 2) aC) (aK jC aC (pv 1))) (aA (aZ aR (bU (aA aC (aA (pv 2) aB))) (cF gO (by rfl) G.int gU (aA (dN sK (pv 2) (aK eK aC aC) (bF _)) aB)) (fun _ _=>rfl)) (aA aC aB))))))),?_⟩
  refine⟨_,rfl,_,rfl,a,_,rfl,.inl hS,_,_,rfl,rfl,_,rfl,?_⟩
  have pw18:rC 10 18:=⟨by decide,by decide,by decide⟩
  have hk:∀(hc:decide ((k:Int)<((ns.map V.int).length:Int))=true),k<ns.length:=fun hc=>by
   have:=of_decide_eq_true hc
   rw [List.length_map] at this
   omega
  refine cI (fun hc=>⟨_,rfl,_,rfl,a,_,_,_,rfl,rfl,hS,aJ (j:=k) (v:=V.int (ns[k]'(hk hc))) (by rw [List.getElem?_map,List.getElem?_eq_getElem (hk hc)];rfl),?_⟩) (fun hc=>?_)
  all_goals
   refine⟨_,rfl,_,_,rfl,rfl,(by show (0:Int)<2147483647;decide),_,rfl,_,_,rfl,rfl,.inl ⟨by decide,by decide⟩,_,_,rfl,rfl,?_⟩
   refine⟨_,rfl,by show 2<=sizeLine;decide,fun l1 h1=>?_⟩
   refine⟨_,rfl,_,_,rfl,rfl,pw18,_,_,rfl,rfl,.inr ⟨_,rfl,?_⟩⟩
   exact⟨l1,_,_,_,rfl,rfl,SqL.of aE,(pick2 _ _ _).choose_spec,by show 3<=sizeLine;decide,fun l2 h2=>q l2 _ ((aG h1).trans (aG h2)) ((aG h1).free h2) ⟨_,_,_,aE⟩⟩
theorem qA:bO ["_law_well_here","_law_most","_law_number_here"] ["_law_well_here","_law_most"] (aM sDraw):=⟨rfl,rfl,rfl,by decide +kernel,rfl,by decide +kernel,by decide +kernel⟩
theorem ok_draw {f:Addr} {fd:FuncData} (F:Fun K "_law_draw" "_law_draw" sDraw f fd):aY P w K mg base CX0 1 f fd ["_law_well_here","_law_most"] eD:=by
 refine F.ok qA (fun vs H Q E h=>?_) (fun cdv A outer s H vs Q E hr h=>?_)
 ·obtain⟨w',m,rfl,_⟩:=h
  rfl
 ·obtain⟨w',m,rfl,⟨a,b,c,hw⟩,m0,m1,q⟩:=h
  refine⟨_,aD (cB (aS sJ (aZ aR (pv 0) aC (fun _ _=>rfl)) aC (bF _))
    (aD (aN (i:=2) qA.nd rfl (Or.inl rfl) (aK iA (aZ aR (pv 0) aC (fun _ _=>rfl)) (pv 1)))
    (aD (yR (aK zD (aZ aR (pv 0) aC (fun _ _=>rfl)) (pv 1)) (yY (pv 0) aC rN))
    (aI (aT (pv 2))))) aW)
   (aD (yR (aK cM (aZ aR (pv 0) aC (fun _ _=>rfl)) aC) (yY (pv 0) aC rN))
   (aD (aN (i:=2) qA.nd rfl (Or.inl rfl) (aK iA (aK jC (aK cM (aK cM (aZ aR (pv 0) aC (fun _ _=>rfl)) (aK jC aC (aZ aR (pv 0) aC (fun _ _=>rfl)))) aC) aC) aC))
   (aD (aN (i:=2) qA.nd rfl (Or.inl rfl) (aK iA (aK jC (pv 2) (aK cM (aK wC (pv 2) aC) aC)) aC))
   (aI (aT (aK iA (aK iA (aK jC (pv 2) (aK cM (aK wC (pv 2) aC) aC)) aC) (pv 1))))))),?_⟩
  have keep:∀(o:HO) (x:Addr) (u:HO),x≠w'->H x=some u->(upd H w' o) x=some u:=fun o x u n e=>by
   rw [aP n]
   exact e
  have rm:∀z:Int,0<=z % m/\z % m<m:=fun z=>⟨Int.emod_nonneg _ (by omega),Int.emod_lt_of_pos _ m0⟩
  refine⟨_,rfl,w',_,_,_,rfl,rfl,SqL.of hw,aJ (j:=1) rfl,_,_,rfl,rfl,_,rfl,?_⟩
  refine cI (fun hc=>?_) (fun hc=>?_)
  ·refine⟨_,rfl,w',_,_,_,rfl,rfl,SqL.of hw,aJ (j:=1) rfl,_,rfl,_,_,rfl,rfl,m0,?_⟩
   refine⟨_,rfl,w',_,_,_,rfl,rfl,SqL.of hw,aJ (j:=1) rfl,_,rfl,_,_,rfl,rfl,⟨m0,m1⟩,?_⟩
   refine⟨_,rfl,w',_,_,_,rfl,rfl,hw,rfl,?_⟩
   exact⟨_,rfl,q _ _ ⟨keep _,⟨_,_,_,aE⟩⟩ (rm _).1 (rm _).2⟩
  ·refine⟨_,rfl,w',_,_,_,rfl,rfl,SqL.of hw,aJ (j:=2) rfl,_,_,rfl,rfl,?_⟩
   refine⟨_,rfl,w',_,_,2,rfl,rfl,hw,rfl,?_⟩
   have hw2:(upd H w' (.lst ([V.int a,.int b,.int c].set 2 (.int (c+1))))) w'=some (.lst [.int a,.int b,.int (c+1)]):=aE
   have kp:Kp w' H (upd H w' (.lst ([V.int a,.int b,.int c].set 2 (.int (c+1))))):=⟨keep _,⟨_,_,_,hw2⟩⟩
   refine⟨_,rfl,w',_,_,_,rfl,rfl,SqL.of hw2,aJ (j:=0) rfl,_,rfl,w',_,_,_,rfl,rfl,SqL.of hw2,aJ (j:=2) rfl,_,_,rfl,rfl,.inl ⟨by decide,by decide⟩,_,_,rfl,rfl,_,_,rfl,rfl,_,_,rfl,rfl,.inr ⟨by decide,by decide⟩,_,_,rfl,rfl,(by show (0:Int)<2147483647;decide),?_⟩
   have n1:0<=(a+7919 * (c+1)+1) * 48271 % 2147483647/\(a+7919 * (c+1)+1) * 48271 % 2147483647<2147483647:=by omega
   generalize (a+7919 * (c+1)+1) * 48271 % 2147483647=x1 at n1 ⊢
   refine⟨_,rfl,_,rfl,_,_,rfl,rfl,⟨by decide,by decide⟩,_,_,rfl,rfl,_,_,rfl,rfl,.inl ⟨by omega,by omega⟩,_,_,rfl,rfl,(by show (0:Int)<2147483647;decide),?_⟩
   have n2:0<=x1 * (x1 / 1009+69621) % 2147483647/\x1 * (x1 / 1009+69621) % 2147483647<2147483647:=⟨Int.emod_nonneg _ (by decide),Int.emod_lt_of_pos _ (by decide)⟩
   generalize x1 * (x1 / 1009+69621) % 2147483647=x2 at n2 ⊢
   refine⟨_,rfl,_,rfl,_,_,rfl,rfl,⟨by decide,by decide⟩,_,_,rfl,rfl,_,_,rfl,rfl,.inl ⟨by omega,by omega⟩,_,_,rfl,rfl,(by show (0:Int)<2147483399;decide),_,rfl,_,_,rfl,rfl,m0,?_⟩
   exact q _ _ kp (rm _).1 (rm _).2
theorem scFar:bO ["_law_well_here","_law_far_here","_law_some"] ["_law_well_here"] (aM sFar):=⟨rfl,rfl,rfl,by decide +kernel,rfl,by decide +kernel,by decide +kernel⟩
theorem ok_far {f fD:Addr} {fd fdD:FuncData} (F:Fun K "_law_far" "_law_far" sFar f fd) (GD:aY P w K mg base CX0 1 fD fdD ["_law_well_here","_law_most"] eD) (kp:keepIn K (.ref fD)=true) (bD:bV K fdD ["_law_well_here","_law_most"] []) (mD:mg "_law_draw"=some (.ref fD)):
  aY P w K mg base CX0 2 f fd ["_law_well_here"] spFar:=by
 refine F.ok scFar (fun vs H Q E h=>?_) (fun cdv A outer s H vs Q E hr h=>?_)
 ·obtain⟨w',rfl,_⟩:=h
  rfl
 ·obtain⟨w',rfl,hw,q⟩:=h
  refine⟨_,aD (aN (i:=1) scFar.nd rfl (Or.inl rfl) (aK cM (aK jC (aH GD hr rfl mD kp bD .nil aX (aA (pv 0) (aA (aK eK aC aC) aB))) (aK eK aC aC)) (aH GD hr rfl mD kp bD .nil aX (aA (pv 0) (aA (aK eK aC aC) aB)))))
   (aD (aN (i:=2) scFar.nd rfl (Or.inl rfl) (bU (aA (aH GD hr rfl mD kp bD .nil aX (aA (pv 0) (aA aC aB)))
    (aA (aK eV (aH GD hr rfl mD kp bD .nil aX (aA (pv 0) (aA aC aB))) aC) (aA (pv 1) (aA (aK eV aC (pv 1)) (aA (aK eV (aK eK aC aC) aC) (aA (aK eV aC (aK eK aC aC)) aB))))))))
   (aI (aT (aZ aR (pv 2) (aH GD hr rfl mD kp bD .nil aX (aA (pv 0) (aA aC aB))) (fun _ _=>rfl))))),?_⟩
  have pw9:rC 10 9:=⟨by decide,by decide,by decide⟩
  have pw18:rC 10 18:=⟨by decide,by decide,by decide⟩
  have v9:(10:Int) ^ (9:Int).toNat=1000000000:=by decide
  have v18:(10:Int) ^ (18:Int).toNat=1000000000000000000:=by decide
  refine⟨_,rfl,_,_,rfl,rfl,pw9,w',_,rfl,hw,(by rw [v9];decide),(by rw [v9];decide),fun r1 H1 k1 a1 b1=>?_⟩
  refine⟨_,_,rfl,rfl,pw9,_,_,rfl,rfl,.inr ⟨by rw [v9];decide,by rw [v9];decide⟩,?_⟩
  refine⟨_,rfl,_,_,rfl,rfl,pw9,w',_,rfl,k1.wl,(by rw [v9];decide),(by rw [v9];decide),fun r2 H2 k2 a2 b2=>?_⟩
  refine⟨_,_,rfl,rfl,?_⟩
  rw [v9] at b1 b2 ⊢
  show dS 1 (V.int (r1 * 1000000000+r2)) _ _ _
  have bf:0<=r1 * 1000000000+r2/\r1 * 1000000000+r2<1000000000000000000:=by omega
  generalize r1 * 1000000000+r2=fr at bf ⊢
  refine⟨_,rfl,w',20,rfl,k2.wl,by decide,by decide,fun r3 H3 k3 a3 b3=>?_⟩
  refine⟨_,rfl,w',20,rfl,k3.wl,by decide,by decide,fun r4 H4 k4 a4 b4=>?_⟩
  refine⟨_,_,rfl,rfl,_,rfl,_,rfl,_,_,rfl,rfl,_,_,rfl,rfl,pw18,_,_,rfl,rfl,_,_,rfl,rfl,pw18,_,_,rfl,rfl,by show 6<=sizeLine;decide,fun l hl=>?_⟩
  have wl5:=k4.wl.same (aG (o:=.lst [.int r3,.int (r4-10),.int fr,.int (0-fr),.int (10 ^ (18:Int).toNat-1),.int (1-10 ^ (18:Int).toNat)]) hl)
  refine⟨_,rfl,_,rfl,w',6,rfl,wl5,by decide,by decide,fun r6 H6 k6 a6 b6=>?_⟩
  obtain⟨z,mz,ez⟩:=sD (ns:=[r3,r4-10,fr,0-fr,10 ^ (18:Int).toNat-1,1-10 ^ (18:Int).toNat]) (i:=r6) a6 (by show r6<((6:Nat):Int);omega)
  have ne:l≠w':=(k4.wl.ne hl).symm
  refine⟨l,_,_,_,rfl,rfl,SqL.of (k6.at_ _ _ ne aE),ez,q _ _ (k1.trans (k2.trans (k3.trans ((k4.same (aG hl)).trans k6)))) ?_⟩
  rw [v18] at mz
  simp only [List.mem_cons,List.not_mem_nil,or_false] at mz
  unfold Bs
  omega
def uA:Sp:=fun vs H Q _=>∃(w:Addr),vs=[.ref w]/\Wl H w/\∀p ps H',Kp w H H'->gB H' p ps->ps.length<=6->Q (.ref p) H'
def uC:Sp:=fun vs H Q _=>∃(w:Addr),vs=[.ref w]/\Wl H w/\∀p a b c H',Kp w H H'->H' p=some (.tup [.int a,.int b,.int c])->Bd a->Bd b->Bd c->1<=a->1<=b->b<=c->Q (.ref p) H'
theorem vG {l h:Int}:∀{ps:Lm.Ps},Lm.Wk ps->(∀q ∈ ps,q.2<=l)->l<h->Lm.Wk (ps++[(l,h)])
 | [],_,_,lt=>⟨lt,fun q hq=>absurd hq (by simp),trivial⟩
 | p::t,⟨h1,h2,h3⟩,b,lt=>by
  refine⟨h1,fun q hq=>?_,vG h3 (fun q hq=>b q (List.mem_cons_of_mem _ hq)) lt⟩
  rcases List.mem_append.mp hq with hq|hq
  ·exact h2 q hq
  ·cases List.mem_singleton.mp hq
   exact b p List.mem_cons_self
theorem uV {w:Addr} {H1 H2:Hp} (k:Kp w H1 H2) (hw:Wl H1 w) {vs:List V} {ps:List (Int × Int)} (h:Paired (PairAt H1) vs ps):Paired (PairAt H2) vs ps:=cA (fun v q ⟨b,z1,z2⟩=>⟨b,z1,k.tup hw z2⟩) h
theorem dE {α β:Type} {F:α->β->Prop} {x:α} {y:β}:∀{xs:List α} {ys:List β},Paired F xs ys->F x y->Paired F (xs++[x]) (ys++[y])
 | _,_,.nil,h=>.cons h .nil
 | _,_,.cons r t,h=>.cons r (dE t h)
theorem uG:bO ["_law_well_here","_law_every","_law_span"] ["_law_well_here"] (aM sLims):=⟨rfl,rfl,rfl,by decide +kernel,rfl,by decide +kernel,by decide +kernel⟩
theorem ok_lims {f fD:Addr} {fd fdD:FuncData} (F:Fun K "_law_free_limits" "_law_free_limits" sLims f fd) (GD:aY P w K mg base CX0 1 fD fdD ["_law_well_here","_law_most"] eD) (kp:keepIn K (.ref fD)=true) (bD:bV K fdD ["_law_well_here","_law_most"] []) (mD:mg "_law_draw"=some (.ref fD)):
  aY P w K mg base CX0 2 f fd ["_law_well_here"] uC:=by
 refine F.ok uG (fun vs H Q E h=>?_) (fun cdv A outer s H vs Q E hr h=>?_)
 ·obtain⟨w',rfl,_⟩:=h
  rfl
 ·obtain⟨w',rfl,hw,q⟩:=h
  refine⟨_,aD (aN (i:=1) uG.nd rfl (Or.inl rfl) (aK cM aC (aZ aR (bU (aA (aH GD hr rfl mD kp bD .nil aX (aA (pv 0) (aA aC aB))) (aA (aH GD hr rfl mD kp bD .nil aX (aA (pv 0) (aA (aK eK aC aC) aB))) aB))) (aH GD hr rfl mD kp bD .nil aX (aA (pv 0) (aA aC aB))) (fun _ _=>rfl))))
   (aD (aN (i:=2) uG.nd rfl (Or.inl rfl) (aK cM aC (aZ aR (bU (aA (aH GD hr rfl mD kp bD .nil aX (aA (pv 0) (aA aC aB))) (aA (aH GD hr rfl mD kp bD .nil aX (aA (pv 0) (aA (aK eK aC aC) aB))) aB))) (aH GD hr rfl mD kp bD .nil aX (aA (pv 0) (aA aC aB))) (fun _ _=>rfl))))
   (aI (aT (bZ (aA (pv 2) (aA (pv 1) (aA (aK cM (pv 1) (aZ aR (bU (aA aC (aA (aH GD hr rfl mD kp bD .nil aX (aA (pv 0) (aA aC aB))) (aA (aH GD hr rfl mD kp bD .nil aX (aA (pv 0) (aA (aK eK aC aC) aB))) aB)))) (aH GD hr rfl mD kp bD .nil aX (aA (pv 0) (aA aC aB))) (fun _ _=>rfl))) aB))))))),?_⟩
  have pw9:rC 10 9:=⟨by decide,by decide,by decide⟩
  have pw17:rC 10 17:=⟨by decide,by decide,by decide⟩
  have v9:(10:Int) ^ (9:Int).toNat=1000000000:=by decide
  have v17:(10:Int) ^ (17:Int).toNat=100000000000000000:=by decide
  have sz2:(2:Nat)<=sizeLine:=by decide
  have sz3:(3:Nat)<=sizeLine:=by decide
  refine⟨_,rfl,w',9,rfl,hw,by decide,by decide,fun r1 H1 k1 a1 b1=>?_⟩
  refine⟨_,rfl,_,_,rfl,rfl,pw17,w',_,rfl,k1.wl,(by rw [v17];decide),(by rw [v17];decide),fun r2 H2 k2 a2 b2=>⟨sz2,fun l1 h1=>?_⟩⟩
  have kA:Kp w' H (upd H2 l1 (.lst [.int r1,.int r2])):=(k1.trans k2).same (aG h1)
  have e1:(upd H2 l1 (.lst [.int r1,.int r2])) l1=some (.lst [.int r1,.int r2]):=aE
  have n1:l1≠w':=(k2.wl.ne h1).symm
  generalize upd H2 l1 (.lst [.int r1,.int r2])=H3 at kA e1 ⊢
  refine⟨_,rfl,w',2,rfl,kA.wl,by decide,by decide,fun r3 H4 k4 a3 b3=>?_⟩
  obtain⟨z1,m1,g1⟩:=sD (ns:=[r1,r2]) (i:=r3) a3 (by show r3<((2:Nat):Int);omega)
  refine⟨l1,_,_,_,rfl,rfl,SqL.of (k4.at_ _ _ n1 e1),g1,_,_,rfl,rfl,?_⟩
  have B1:0<=z1/\z1<100000000000000000:=by
   rw [v17] at b2
   simp only [List.mem_cons,List.not_mem_nil,or_false] at m1
   omega
  have kB:=kA.trans k4
  refine⟨_,rfl,w',9,rfl,kB.wl,by decide,by decide,fun r5 H5 k5 a5 b5=>?_⟩
  refine⟨_,rfl,_,_,rfl,rfl,pw17,w',_,rfl,k5.wl,(by rw [v17];decide),(by rw [v17];decide),fun r6 H6 k6 a6 b6=>⟨sz2,fun l2 h2=>?_⟩⟩
  have kC:Kp w' H (upd H6 l2 (.lst [.int r5,.int r6])):=(kB.trans (k5.trans k6)).same (aG h2)
  have e2:(upd H6 l2 (.lst [.int r5,.int r6])) l2=some (.lst [.int r5,.int r6]):=aE
  have n2:l2≠w':=(k6.wl.ne h2).symm
  generalize upd H6 l2 (.lst [.int r5,.int r6])=H7 at kC e2 ⊢
  refine⟨_,rfl,w',2,rfl,kC.wl,by decide,by decide,fun r7 H8 k8 a7 b7=>?_⟩
  obtain⟨z2,m2,g2⟩:=sD (ns:=[r5,r6]) (i:=r7) a7 (by show r7<((2:Nat):Int);omega)
  refine⟨l2,_,_,_,rfl,rfl,SqL.of (k8.at_ _ _ n2 e2),g2,_,_,rfl,rfl,?_⟩
  have B2:0<=z2/\z2<100000000000000000:=by
   rw [v17] at b6
   simp only [List.mem_cons,List.not_mem_nil,or_false] at m2
   omega
  have kD:=kC.trans k8
  refine⟨_,rfl,_,rfl,_,rfl,_,rfl,w',9,rfl,kD.wl,by decide,by decide,fun r9 H9 k9 a9 b9=>?_⟩
  refine⟨_,rfl,_,_,rfl,rfl,pw9,w',_,rfl,k9.wl,(by rw [v9];decide),(by rw [v9];decide),fun r10 H10 k10 a10 b10=>⟨sz3,fun l3 h3=>?_⟩⟩
  have kE:Kp w' H (upd H10 l3 (.lst [.int 0,.int r9,.int r10])):=(kD.trans (k9.trans k10)).same (aG h3)
  have e3:(upd H10 l3 (.lst [.int 0,.int r9,.int r10])) l3=some (.lst [.int 0,.int r9,.int r10]):=aE
  have n3:l3≠w':=(k10.wl.ne h3).symm
  generalize upd H10 l3 (.lst [.int 0,.int r9,.int r10])=H11 at kE e3 ⊢
  refine⟨_,rfl,w',3,rfl,kE.wl,by decide,by decide,fun r12 H12 k12 a12 b12=>?_⟩
  obtain⟨z3,m3,g3⟩:=sD (ns:=[0,r9,r10]) (i:=r12) a12 (by show r12<((3:Nat):Int);omega)
  refine⟨l3,_,_,_,rfl,rfl,SqL.of (k12.at_ _ _ n3 e3),g3,_,_,rfl,rfl,sz3,fun p hp=>?_⟩
  have B3:0<=z3/\z3<1000000000:=by
   rw [v9] at b10
   simp only [List.mem_cons,List.not_mem_nil,or_false] at m3
   omega
  exact q p _ _ _ _ ((kE.trans k12).same (aG hp)) aE ⟨by omega,by omega⟩ ⟨by omega,by omega⟩ ⟨by omega,by omega⟩ (by omega) (by omega) (by omega)
theorem hU:bO ["_law_well_here","_law_far_here","_law_at","_law_found_here","_law_k","_law_high"] ["_law_well_here"] (aM sMake):=⟨rfl,rfl,rfl,by decide +kernel,rfl,by decide +kernel,by decide +kernel⟩
theorem ok_make {f fD:Addr} {fd fdD:FuncData} (F:Fun K "_law_free_work" "_law_free_work" sMake f fd) (G:Gb mg) (GD:aY P w K mg base CX0 1 fD fdD ["_law_well_here","_law_most"] eD) (kp:keepIn K (.ref fD)=true) (bD:bV K fdD ["_law_well_here","_law_most"] []) (mD:mg "_law_draw"=some (.ref fD)):
  aY P w K mg base CX0 2 f fd ["_law_well_here"] uA:=by
 refine F.ok hU (fun vs H Q E h=>?_) (fun cdv A outer s H vs Q E hr h=>?_)
 ·obtain⟨w',rfl,_⟩:=h
  rfl
 ·obtain⟨w',rfl,hw,q⟩:=h
  refine⟨_,aD (aN (i:=1) hU.nd rfl (Or.inl rfl) (aK eV (aK eV aC (aK eK aC aC)) (aH GD hr rfl mD kp bD .nil aX (aA (pv 0) (aA (aK eK aC aC) aB)))))
   (aD (aN (i:=2) hU.nd rfl (Or.inl rfl) (aZ aR (bU (aA (aK eV (aH GD hr rfl mD kp bD .nil aX (aA (pv 0) (aA aC aB))) aC) (aA (pv 1) (aA (aH GD hr rfl mD kp bD .nil aX (aA (pv 0) (aA (aK eK aC aC) aB))) aB)))) (aH GD hr rfl mD kp bD .nil aX (aA (pv 0) (aA aC aB))) (fun _ _=>rfl)))
   (aD (aN (i:=3) hU.nd rfl (Or.inl rfl) (bU aB))
   (aD (gR PassesOwn.never rfl (gI rfl G.range (aA (aH GD hr rfl mD kp bD .nil aX (aA (pv 0) (aA aC aB))) aB)) (cC (i:=4) hU.nd rfl (Or.inl rfl))
    (aD (aN (i:=2) hU.nd rfl (Or.inl rfl) (aK cM (pv 2) (aZ aR (bU (aA aC (aA (aH GD hr rfl mD kp bD .nil aX (aA (pv 0) (aA aC aB))) (aA (aH GD hr rfl mD kp bD .nil aX (aA (pv 0) (aA (aK eK aC aC) aB))) aB)))) (aH GD hr rfl mD kp bD .nil aX (aA (pv 0) (aA aC aB))) (fun _ _=>rfl))))
    (aD (aN (i:=5) hU.nd rfl (Or.inl rfl) (aK cM (aK cM (pv 2) aC) (aZ aR (bU (aA (aH GD hr rfl mD kp bD .nil aX (aA (pv 0) (aA aC aB))) (aA (aH GD hr rfl mD kp bD .nil aX (aA (pv 0) (aA aC aB))) aB))) (aH GD hr rfl mD kp bD .nil aX (aA (pv 0) (aA aC aB))) (fun _ _=>rfl))))
    (aD (qE (fU PySem.F.plainAttrs_list PySem.F.slot_list_append PySem.F.type_list_append gK (pv 3) (aA (bZ (aA (pv 2) (aA (pv 5) aB))) aB)))
    (aI (aN (i:=2) hU.nd rfl (Or.inl rfl) (pv 5)))))))
   (aI (aT (cF cN (by rfl) G.tuple eX (aA (pv 3) aB))))))),?_⟩
  have pw6:rC 10 6:=⟨by decide,by decide,by decide⟩
  have pw9:rC 10 9:=⟨by decide,by decide,by decide⟩
  have pw17:rC 10 17:=⟨by decide,by decide,by decide⟩
  have v6:(10:Int) ^ (6:Int).toNat=1000000:=by decide
  have v9:(10:Int) ^ (9:Int).toNat=1000000000:=by decide
  have v17:(10:Int) ^ (17:Int).toNat=100000000000000000:=by decide
  have sz2:(2:Nat)<=sizeLine:=by decide
  have sz3:(3:Nat)<=sizeLine:=by decide
  have sl:sizeLine=16777216:=sizeLine_eq
  refine⟨_,_,rfl,rfl,pw17,_,_,rfl,rfl,_,rfl,_,_,rfl,rfl,pw6,w',_,rfl,hw,(by rw [v6];decide),(by rw [v6];decide),fun r0 H0 k0 a0 b0=>⟨_,_,rfl,rfl,?_⟩⟩
  refine⟨_,rfl,w',100,rfl,k0.wl,by decide,by decide,fun r1 H1 k1 a1 b1=>⟨_,_,rfl,rfl,?_⟩⟩
  refine⟨_,rfl,_,rfl,_,_,rfl,rfl,pw17,w',_,rfl,k1.wl,(by rw [v17];decide),(by rw [v17];decide),fun r2 H2 k2 a2 b2=>⟨sz3,fun l1 h1=>?_⟩⟩
  have kA:Kp w' H (upd H2 l1 (.lst [.int (r1-50),.int (0-10 ^ (17:Int).toNat-r0),.int r2])):=(k0.trans (k1.trans k2)).same (aG h1)
  have e1:(upd H2 l1 (.lst [.int (r1-50),.int (0-10 ^ (17:Int).toNat-r0),.int r2])) l1=some (.lst [.int (r1-50),.int (0-10 ^ (17:Int).toNat-r0),.int r2]):=aE
  have n1:l1≠w':=(k2.wl.ne h1).symm
  refine⟨_,rfl,w',3,rfl,kA.wl,by decide,by decide,fun r3 H4 k4 a3 b3=>?_⟩
  obtain⟨z1,m1,g1⟩:=sD (ns:=[r1-50,0-10 ^ (17:Int).toNat-r0,r2]) (i:=r3) a3 (by show r3<((3:Nat):Int);omega)
  refine⟨l1,_,_,_,rfl,rfl,SqL.of (k4.at_ _ _ n1 e1),g1,?_⟩
  have B1:-200000000000000000<=z1/\z1<=200000000000000000:=by
   rw [v17] at b2 m1
   rw [v6] at b0
   simp only [List.mem_cons,List.not_mem_nil,or_false] at m1
   omega
  have kB:=kA.trans k4
  refine⟨Nat.zero_le _,fun lf hf=>?_⟩
  have kC:Kp w' H (upd H4 lf (.lst [])):=kB.same (aG hf)
  have ef:(upd H4 lf (.lst [])) lf=some (.lst []):=aE
  have nf:lf≠w':=(kB.wl.ne hf).symm
  generalize upd H4 lf (.lst [])=H5 at kC ef ⊢
  have Hf:H lf=none:=by
   cases z:H lf with
   | none=>rfl
   | some o=>rw [kB.at_ lf o nf z] at hf;cases hf
  refine⟨_,rfl,w',7,rfl,kC.wl,by decide,by decide,fun rn H6 k6 a6 b6=>?_⟩
  refine⟨rn,rfl,by omega,by omega,?_⟩
  refine iN (lo:=0) (n:=rn.toNat) (fun i σ H7=>∃(at_:Int) (vs:List V) (ps:List (Int × Int)) (fr:Option V) (u v:Option V),σ=[some (.ref w'),fr,some (.int at_),some (.ref lf),u,v]/\Kp w' H H7/\H7 lf=some (.lst vs)/\Paired (PairAt H7) vs ps/\ps.length=i/\Lm.Wk ps/\(∀q ∈ ps,q.2<=at_)/\(∀q ∈ ps,Bd q.1/\Bd q.2)/\-200000000000000000<=at_/\at_<=200000000000000000+2000000000 * (i:Int))
   ⟨z1,[],[],_,_,_,rfl,kC.trans k6,k6.at_ _ _ nf ef,.nil,rfl,trivial,(fun q hq=>absurd hq (by simp)),(fun q hq=>absurd hq (by simp)),B1.1,by omega⟩ ?_ ?_
  ·rintro i σ H7 hi ⟨at_,vs,ps,fr,u,v,rfl,kD,hF,pr,hlen,wk,wb,bd,c1,c2⟩
   have hi6:i<6:=by omega
   refine⟨_,rfl,_,rfl,w',9,rfl,kD.wl,by decide,by decide,fun s1 G1 j1 d1 f1=>?_⟩
   refine⟨_,rfl,_,_,rfl,rfl,pw9,w',_,rfl,j1.wl,(by rw [v9];decide),(by rw [v9];decide),fun s2 G2 j2 d2 f2=>⟨sz3,fun l2 h2=>?_⟩⟩
   have t1:Kp w' H7 (upd G2 l2 (.lst [.int 0,.int s1,.int s2])):=(j1.trans j2).same (aG h2)
   have e2:(upd G2 l2 (.lst [.int 0,.int s1,.int s2])) l2=some (.lst [.int 0,.int s1,.int s2]):=aE
   have n2:l2≠w':=(j2.wl.ne h2).symm
   generalize upd G2 l2 (.lst [.int 0,.int s1,.int s2])=G3 at t1 e2 ⊢
   refine⟨_,rfl,w',3,rfl,t1.wl,by decide,by decide,fun s3 G4 j4 d3 f3=>?_⟩
   obtain⟨x1,mx1,gx1⟩:=sD (ns:=[0,s1,s2]) (i:=s3) d3 (by show s3<((3:Nat):Int);omega)
   refine⟨l2,_,_,_,rfl,rfl,SqL.of (j4.at_ _ _ n2 e2),gx1,_,_,rfl,rfl,?_⟩
   have bx1:0<=x1/\x1<=1000000000:=by
    rw [v9] at f2
    simp only [List.mem_cons,List.not_mem_nil,or_false] at mx1
    omega
   have t2:=t1.trans j4
   refine⟨_,rfl,_,_,rfl,rfl,_,rfl,w',9,rfl,t2.wl,by decide,by decide,fun s5 G5 j5 d5 f5=>?_⟩
   refine⟨_,rfl,w',150,rfl,j5.wl,by decide,by decide,fun s6 G6 j6 d6 f6=>⟨sz2,fun l3 h3=>?_⟩⟩
   have t3:Kp w' H7 (upd G6 l3 (.lst [.int s5,.int s6])):=(t2.trans (j5.trans j6)).same (aG h3)
   have e3:(upd G6 l3 (.lst [.int s5,.int s6])) l3=some (.lst [.int s5,.int s6]):=aE
   have n3:l3≠w':=(j6.wl.ne h3).symm
   generalize upd G6 l3 (.lst [.int s5,.int s6])=G7 at t3 e3 ⊢
   refine⟨_,rfl,w',2,rfl,t3.wl,by decide,by decide,fun s7 G8 j8 d7 f7=>?_⟩
   obtain⟨x2,mx2,gx2⟩:=sD (ns:=[s5,s6]) (i:=s7) d7 (by show s7<((2:Nat):Int);omega)
   refine⟨l3,_,_,_,rfl,rfl,SqL.of (j8.at_ _ _ n3 e3),gx2,_,_,rfl,rfl,?_⟩
   have bx2:0<=x2/\x2<150:=by
    simp only [List.mem_cons,List.not_mem_nil,or_false] at mx2
    omega
   have t4:=t3.trans j8
   have hF8:=t4.at_ _ _ nf hF
   have pr8:=uV t4 kD.wl pr
   refine⟨_,rfl,.inl ⟨rfl,_,SqL.of hF8⟩,_,rfl,_,rfl,sz2,fun t ht=>?_⟩
   have nt:lf≠t:=aL hF8 ht
   have lv:vs.length<=6:=by rw [pr.length];omega
   refine⟨lf,_,_,rfl,rfl,by rw [aP nt];exact hF8,by omega,?_⟩
   refine⟨_,rfl,at_+x1+1+x2,vs++[.ref t],ps++[(at_+x1,at_+x1+1+x2)],_,_,_,rfl,?_,aE,?_,by rw [List.length_append,hlen];rfl,vG wk (fun q hq=>Int.le_trans (wb q hq) (by omega)) (by omega),fun q hq=>?_,fun q hq=>?_,by omega,by omega⟩
   ·have k8:=kD.trans t4
    refine⟨fun x o n z=>?_,?_⟩
    ·have z8:=k8.at_ x o n z
     have nx:x≠lf:=aL z Hf
     rw [aP nx,aP (aL z8 ht)]
     exact z8
    ·obtain⟨a,b,c,hw8⟩:=k8.wl
     refine⟨a,b,c,?_⟩
     rw [aP nf.symm,aP (aL hw8 ht)]
     exact hw8
   ·have keep:∀(b:Addr) (ys:List V),G8 b=some (.tup ys)->(upd (upd G8 t (.tup [.int (at_+x1),.int (at_+x1+1+x2)])) lf (.lst (vs++[.ref t]))) b=some (.tup ys):=fun b ys z=>by
     rw [aP (oO z hF8 (by intro w;cases w)),aP (aL z ht)]
     exact z
    refine dE (cA (fun v q ⟨b,z1,z2⟩=>⟨b,z1,keep b _ z2⟩) pr8) ⟨t,rfl,?_⟩
    rw [aP nt.symm]
    exact aE
   ·rcases List.mem_append.mp hq with hq|hq
    ·exact Int.le_trans (wb q hq) (by omega)
    ·cases List.mem_singleton.mp hq
     exact Int.le_refl _
   ·rcases List.mem_append.mp hq with hq|hq
    ·exact bd q hq
    ·cases List.mem_singleton.mp hq
     exact⟨⟨by show _<at_+x1;omega,by show at_+x1<_;omega⟩,⟨by show _<at_+x1+1+x2;omega,by show at_+x1+1+x2<_;omega⟩⟩
  ·rintro σ H7 ⟨at_,vs,ps,fr,u,v,rfl,kD,hF,pr,hlen,wk,wb,bd,c1,c2⟩
   refine⟨_,rfl,lf,_,rfl,.inl ⟨SqL.of hF,fun p hp=>?_⟩⟩
   refine q p ps _ (kD.same (aG hp)) ⟨vs,aE,cA (fun v q ⟨b,z1,z2⟩=>⟨b,z1,aG hp _ _ z2⟩) pr,by omega,bd⟩ (by omega)
inductive Ln where
 | lent (a:Int) (x:Str) (b c:Int)
 | told (a b c:Int) (ns:List Int)
 | back (a b:Int)
 | cut (a b:Int)
 | join (a:Int)
def Ln.vs:Ln->List V
 | .lent a x b c=>[.str "lent",.int a,.str x,.int b,.int c]
 | .told a b c ns=>[.str "told",.int a,.int b,.int c]++ns.map V.int
 | .back a b=>[.str "back",.int a,.int b]
 | .cut a b=>[.str "cut",.int a,.int b]
 | .join a=>[.str "join",.int a]
def Ln.Ok:Ln->Prop
 | .lent a x b c=>Bd a/\Tm.wdB x=true/\Bd b/\Bd c
 | .told a b c ns=>Bd a/\Bd b/\Bd c/\ns.length<=40/\∀n ∈ ns,Bd n
 | .back a b=>Bd a/\Bd b
 | .cut a b=>Bd a/\Bd b
 | .join a=>Bd a
def LnAt (H:Hp) (p:Addr):Ln->Prop
 | .lent a x b c=>H p=some (.tup [.str "lent",.int a,.str x,.int b,.int c])
 | .told a b c ns=>∃t,H p=some (.tup [.str "told",.int a,.int b,.int c,.ref t])/\H t=some (.tup (ns.map V.int))
 | .back a b=>H p=some (.tup [.str "back",.int a,.int b])
 | .cut a b=>H p=some (.tup [.str "cut",.int a,.int b])
 | .join a=>H p=some (.tup [.str "join",.int a])
inductive rB (H:Hp) (p:Addr):List V->Prop where
 | told {a b c:Int} {t:Addr} {ns:List Int} (e:H p=some (.tup [.str "told",.int a,.int b,.int c,.ref t])) (h:H t=some (.tup (ns.map V.int))) (l:ns.length<=40) (ba:Bd a) (bb:Bd b) (bc:Bd c) (bn:∀n ∈ ns,Bd n):rB H p ([.str "told",.int a,.int b,.int c]++ns.map V.int)
 | other {z:Str} {vs:List V} (e:H p=some (.tup (.str z::vs))) (n:z≠"told") (l:vs.length<=5) (ok:∀v ∈ V.str z::vs,dG v):rB H p (.str z::vs)
theorem Ln.parts {l:Ln} (h:l.Ok):∀v ∈ l.vs,dG v:=by
 have al:∀{v:V} {t:List V},dG v->(∀x ∈ t,dG x)->∀x ∈ v::t,dG x:=fun h1 h2 x hx=>by
  rcases List.mem_cons.mp hx with rfl|hx
  ·exact h1
  ·exact h2 x hx
 have n0:∀x ∈ ([]:List V),dG x:=fun x hx=>absurd hx (by simp)
 cases l with
 | lent a x b c=>exact al (.str (by decide +kernel)) (al (.int h.1) (al (.str h.2.1) (al (.int h.2.2.1) (al (.int h.2.2.2) n0))))
 | told a b c ns=>
  refine al (.str (by decide +kernel)) (al (.int h.1) (al (.int h.2.1) (al (.int h.2.2.1) fun x hx=>?_)))
  obtain⟨n,hn,rfl⟩:=List.mem_map.mp hx
  exact .int (h.2.2.2.2 n hn)
 | back a b=>exact al (.str (by decide +kernel)) (al (.int h.1) (al (.int h.2) n0))
 | cut a b=>exact al (.str (by decide +kernel)) (al (.int h.1) (al (.int h.2) n0))
 | join a=>exact al (.str (by decide +kernel)) (al (.int h) n0)
theorem LnAt.is {H:Hp} {p:Addr} {l:Ln} (h:LnAt H p l) (ok:l.Ok):rB H p l.vs:=by
 have hp:=Ln.parts ok
 cases l with
 | lent a x b c=>exact .other h (by decide +kernel) (by show 4<=5;decide) hp
 | told a b c ns=>
  obtain⟨t,h1,h2⟩:=h
  obtain⟨o1,o2,o3,o4,o5⟩:=ok
  exact .told h1 h2 o4 o1 o2 o3 o5
 | back a b=>exact .other h (by decide +kernel) (by show 2<=5;decide) hp
 | cut a b=>exact .other h (by decide +kernel) (by show 2<=5;decide) hp
 | join a=>exact .other h (by decide +kernel) (by show 1<=5;decide) hp
def uB:Sp:=fun vs H Q _=>∃(p:Addr) (xs:List V),vs=[.ref p]/\rB H p xs/\∀H',aV H H'->Q (.str (rowT xs)) H'
theorem vQ:bO ["_law_line"] ["_law_line"] (aM uM):=⟨rfl,rfl,rfl,by decide +kernel,rfl,by decide +kernel,by decide +kernel⟩
theorem zM {f:Addr} {fd:FuncData} (F:Fun K "_law_line_text" "_law_line_text" uM f fd) (G:Gb mg):
  aY P w K mg base CX0 1 f fd ["_law_line"] uB:=by
 refine F.ok vQ (fun vs H Q E h=>?_) (fun cdv A outer s H vs Q E hr h=>?_)
 ·obtain⟨p,xs,rfl,_⟩:=h
  rfl
 ·obtain⟨p,xs,rfl,hx,q⟩:=h
  refine⟨_,aD (cB (aS dB (aZ cK (pv 0) aC (fun _ _=>rfl)) aF (bF _)) (aI (aN (i:=0) vQ.nd rfl (Or.inl rfl) (aK cU (aQ lZ (pv 0) bI (aU aC)) (aZ cK (pv 0) aC (fun _ _=>rfl))))) aW)
   (aI (aT (aK dM (fU PySem.F.plainAttrs_str PySem.F.slot_str_join PySem.F.type_str_join jM aF (aA
   (lG (NB:=["_law_part"]) rfl (by decide +kernel) (by decide +kernel) (by decide +kernel) rfl (yW (pv 0)) (fun C s H fp pn=>cC (i:=0) nd1 rfl (Or.inl rfl) (.inr rfl)) (fun C s H fp pn=>dF)
    (fun C s H fp pn=>cF nG (by rfl) G.str qW (aA (pv 0) aB))) aB)) aF))),?_⟩
  have sl:sizeLine=16777216:=sizeLine_eq
  cases hx with
  | @told a b c t ns e h l ba bb bc bn=>
   refine⟨_,rfl,p,_,_,_,rfl,rfl,SqT.of e,aJ (j:=0) rfl,rfl,_,rfl,?_⟩
   refine cI (fun _=>?_) (fun z=>absurd rfl z)
   refine⟨_,rfl,_,rfl,p,_,rfl,e,fun p2 H2 s2 h2=>?_⟩
   refine⟨_,rfl,p,_,_,_,rfl,rfl,SqT.of (s2 _ _ e),aJ (j:=4) rfl,p2,t,_,_,rfl,rfl,h2,s2 _ _ h,?_,fun p3 H3 s3 h3=>?_⟩
   ·show 4+(ns.map V.int).length<=sizeLine
    rw [List.length_map]
    omega
   ·refine uS (i:=0) rfl (.inr h3) ?_ ?_ fun H' s4=>q _ (s2.trans (s3.trans s4))
    ·show (ns.map V.int).length+4<=100
     rw [List.length_map]
     omega
    ·show ∀v ∈ [V.str "told",.int a,.int b,.int c]++ns.map V.int,dG v
     intro v hv
     rcases List.mem_append.mp hv with hv|hv
     ·simp only [List.mem_cons,List.not_mem_nil,or_false] at hv
      rcases hv with rfl|rfl|rfl|rfl
      ·exact .str (by decide +kernel)
      ·exact .int ba
      ·exact .int bb
      ·exact .int bc
     ·obtain⟨n,hn,rfl⟩:=List.mem_map.mp hv
      exact .int (bn n hn)
  | @other z vs e n l ok=>
   refine⟨_,rfl,p,_,_,_,rfl,rfl,SqT.of e,aJ (j:=0) rfl,rfl,_,rfl,?_⟩
   refine cI (fun z=>absurd (V.str.inj (of_decide_eq_true z)) n) (fun _=>?_)
   refine uS (i:=0) rfl (.inr e) ?_ ok q
   rw [List.length_cons]
   omega
end
end Lt
namespace L2
open PySem PySem.Spec PyProof.Rows
theorem dZ.of {X:Cx} {NB:List Str} {n:Nat} {js:List Nat} {scope:Scope} {cl:List (Str × Addr)} (clo:closureFor scope X.env=pure cl) (hsub:∀p ∈ cl,X.env.cells.lookup p.1=some p.2)
  (hhas:∀p ∈ (relabel scope X.env).names,(p.2=.cell\/p.2=.free)->(cl.lookup p.1).isSome=true) (len:NB.length=n+js.length) (nam:∀k j,js[k]?=some j->NB[n+k]?=X.N[j]?)
  (ck:∀x ∈ NB.drop n,((relabel scope X.env).names.lookup x=some .cell\/(relabel scope X.env).names.lookup x=some .free)/\(X.env.kindOf x=some .cell\/X.env.kindOf x=some .free)/\(cl.lookup x).isSome=true):dZ X NB n js scope cl:=
 ⟨clo,fun x c q=>hsub (x,c) (PySem.mem_of_lookup q),fun x q=>q.elim (fun z=>hhas (x,_) (PySem.mem_of_lookup z) (.inl rfl)) fun z=>hhas (x,_) (PySem.mem_of_lookup z) (.inr rfl),len,nam,fun x _ hx=>ck x hx⟩
theorem bE {α:Type} {P:α->Prop}:∀x ∈ ([]:List α),P x:=fun x hx=>absurd hx (by simp)
theorem all_cons {α:Type} {P:α->Prop} {a:α} {l:List α} (h:P a) (t:∀x ∈ l,P x):∀x ∈ a::l,P x:=fun x hx=>by
 rcases List.mem_cons.mp hx with rfl|hx
 ·exact h
 ·exact t x hx
end L2
namespace Lt
open PySem L2 PySem.W
def spWord:Sp:=fun vs H Q _=>∃(w:Addr),vs=[.ref w]/\Wl H w/\∀x H',Kp w H H'->Tm.wdB x=true->Q (.str x) H'
theorem ndW:(["_law_k","_law_signs","_law_well_here"]:List Str).Nodup:=by decide +kernel
theorem ndF:(["_law_k","_law_well_here"]:List Str).Nodup:=by decide +kernel
theorem Kp.fresh {w p:Addr} {H H':Hp} (k:Kp w H H') (n:p≠w) (e:H' p=none):H p=none:=by
 cases z:H p with
 | none=>rfl
 | some o=>rw [k.at_ p o n z] at e;cases e
theorem Kp.upd {w p:Addr} {H H':Hp} {o:HO} (k:Kp w H H') (n:p≠w) (e:H p=none):Kp w H (upd H' p o):=by
 refine⟨fun x u nx z=>?_,?_⟩
 ·rw [aP (aL z e)]
  exact k.at_ x u nx z
 ·obtain⟨a,b,c,h⟩:=k.wl
  exact⟨a,b,c,by rw [aP n.symm];exact h⟩
theorem sg_join:∀zs:List Str,Tm.sg (Txt.join "" zs)=zs.flatMap Tm.sg:=fun zs=>by
 have e:Txt.join "" zs=Str.join Str.empty zs:=StrLaws.glued_eq_join _ _
 rw [e]
 clear e
 induction zs with
 | nil=>rfl
 | cons z t ih=>
  cases t with
  | nil=>
   show Tm.sg z=Tm.sg z++[]
   rw [List.append_nil]
  | cons y r=>
   rw [Tm.join_two,Str.append_empty,Tm.sg_app,ih]
   rfl
theorem wD:∀(zs:List Str),(∀z ∈ zs,z.length=1)->(zs.map fun z=>z.length).sum=zs.length
 | [],_=>rfl
 | z::zs,h=>by
  rw [List.map_cons,List.sum_cons,h z (by simp),wD zs fun y hy=>h y (by simp [hy]),List.length_cons]
  omega
section
variable {P:Program} {w:World} {K:PySem.W.Frag} {mg:Str->Option Value} {base:Heap}
theorem eJ:bO ["_law_well_here","_law_signs"] ["_law_well_here"] (aM sWord):=⟨rfl,rfl,rfl,by decide +kernel,rfl,by decide +kernel,by decide +kernel⟩
theorem ok_word {f fD:Addr} {fd fdD:FuncData} (F:Fun K "_law_any_word" "_law_any_word" sWord f fd) (G:Gb mg) (GD:aY P w K mg base CX0 1 fD fdD ["_law_well_here","_law_most"] eD) (kp:keepIn K (.ref fD)=true) (bD:bV K fdD ["_law_well_here","_law_most"] []) (mD:mg "_law_draw"=some (.ref fD)):
  aY P w K mg base CX0 2 f fd ["_law_well_here"] spWord:=by
 refine F.ok eJ (fun vs H Q E h=>?_) (fun cdv A outer s H vs Q E hr h=>?_)
 ·obtain⟨w',rfl,_⟩:=h
  rfl
 ·obtain⟨w',rfl,hw,q⟩:=h
  refine⟨_,aD (aN (i:=1) eJ.nd rfl (Or.inr rfl) aF) (aI (aT (fU PySem.F.plainAttrs_str PySem.F.slot_str_join PySem.F.type_str_join jM aF (aA
   (eP (NB:=["_law_k","_law_signs","_law_well_here"]) (n:=1) (js:=[1,0]) (cl:=[("_law_well_here",s.heap.objs.size+1),("_law_signs",s.heap.objs.size+1+1)]) rfl (by decide +kernel) (by decide +kernel) rfl
    (dZ.of rfl (all_cons rfl (all_cons rfl bE)) (all_cons (fun z=>nomatch z) (all_cons (fun z=>nomatch z) (all_cons (fun z=>nomatch z) (all_cons (fun _=>rfl) (all_cons (fun _=>rfl) bE))))) rfl
     (fun k j h=>match k,j,h with|0,_,rfl=>rfl|1,_,rfl=>rfl|k+2,_,h=>absurd h (by simp)) (all_cons ⟨.inl rfl,.inl rfl,rfl⟩ (all_cons ⟨.inl rfl,.inl rfl,rfl⟩ bE)))
    (gI rfl G.range (aA (aK cM aC (aH GD hr rfl mD kp bD .nil aX (aA (pv 0) (aA aC aB)))) aB))
    (fun C s H fp pn=>cC (i:=0) ndW rfl (Or.inl rfl) (.inr rfl)) (fun C s H fp pn=>dF)
    (fun C s H fp pn=>sE (pv 1) (aH GD hr rfl mD kp bD .nil aX (aA (pv 2) (aA aC aB))) (fun _ _=>rfl))) aB)))),?_⟩
  have hz:∃z:Str,z="!\"#$&'()*+,-./0123456789:;<=>?@ABCDEFGHIJKLMNOPQRSTUVWXYZ[\\]^_`abcdefghijklmnopqrstuvwxyz{|}~"/\z.length=93:=⟨_,rfl,by decide +kernel⟩
  obtain⟨z,ez,lz⟩:=hz
  have az:∀c ∈ Tm.sg z,33<=c/\c<=126:=fun c hc=>by
   have h0:(Tm.sg z).all (fun c=>decide (33<=c) && decide (c<=126))=true:=by
    rw [ez]
    decide +kernel
   have:=List.all_eq_true.mp h0 c hc
   simpa using this
  rw [<- ez]
  have sl:sizeLine=16777216:=sizeLine_eq
  refine⟨rfl,_,rfl,w',12,rfl,hw,by decide,by decide,fun r1 H1 k1 a1 b1=>?_⟩
  refine⟨_,_,rfl,rfl,1+r1,rfl,by omega,by omega,fun acc hacc=>?_⟩
  have na:acc≠w':=(k1.wl.ne hacc).symm
  have ha0:H acc=none:=k1.fresh na hacc
  refine⟨fun i m ys H'=>m=(1+r1).toNat-i/\i<=(1+r1).toNat/\(∃zs:List Str,ys=zs.map V.str/\zs.length=i/\∀z ∈ zs,z.length=1/\∀c ∈ Tm.sg z,33<=c/\c<=126)/\Kp w' H H'/\H' acc=some (.lst ys),⟨_,rfl,Nat.zero_le _,⟨[],rfl,rfl,bE⟩,k1.upd na ha0,aE⟩,?_⟩
  rintro i m ys H' ⟨rfl,hi,⟨zs,rfl,hzl,hz1⟩,kA,ha⟩
  refine⟨ha,?_⟩
  by_cases hlt:i<(1+r1).toNat
  ·refine .inr ⟨hlt,?_⟩
   rintro x H'' ⟨rfl,rfl⟩
   refine dC ?_
   refine⟨rfl,?_⟩
   refine dH ?_
   refine cZ ?_
   refine⟨_,rfl,_,rfl,w',93,rfl,kA.wl,by decide,by decide,fun r H2 k2 a2 b2=>?_⟩
   have hr':r.toNat<z.cps.size:=by
    have:z.cps.size=93:=lz
    omega
   refine⟨z,r,z.cps[r.toNat],rfl,rfl,a2,by omega,by rw [lz];omega,Array.getElem?_eq_getElem hr',k2.at_ _ _ na ha,by rw [List.length_map];omega,_,?_,rfl,hlt,⟨zs++[⟨#[z.cps[r.toNat]]⟩],?_,?_,?_⟩,(kA.trans k2).upd na ha0,aE⟩
   ·omega
   ·rw [List.map_append]
    rfl
   ·rw [List.length_append,hzl]
    rfl
   ·intro y hy
    rcases List.mem_append.mp hy with hy|hy
    ·exact hz1 y hy
    ·rw [List.mem_singleton.mp hy]
     refine⟨rfl,fun c hc=>?_⟩
     cases List.mem_singleton.mp hc
     exact az _ (Array.getElem_mem_toList hr')
  ·have s1:=wD zs fun z h=>(hz1 z h).1
   have l0:(Str.ofString "").length=0:=by decide +kernel
   have hj:=mY "" zs
   rw [l0] at hj
   refine .inl ⟨by show (1+r1).toNat<=i;omega,?_⟩
   refine⟨"",acc,zs,rfl,rfl,SqL.of ha,?_,q _ _ kA ?_⟩
   ·rw [l0,s1]
    omega
   ·have sj:=sg_join zs
    have lj:=Tm.sg_len (Txt.join "" zs)
    rw [sj,List.length_flatMap] at lj
    have l1:(zs.map fun a=>(Tm.sg a).length).sum=zs.length:=by
     rw [<- s1]
     rfl
    have lj':(Txt.join "" zs).length=zs.length:=by omega
    refine Tm.wd_iff.mpr ⟨by omega,by omega,fun c hc=>?_⟩
    rw [sj] at hc
    obtain⟨z,hz,hc⟩:=List.mem_flatMap.mp hc
    exact(hz1 z hz).2 c hc
theorem iY:bO ["_law_well_here","_law_way","_law_one","_law_other","_law_odd","_law_worker","_law_many"] ["_law_well_here"] (aM sFree):=⟨rfl,rfl,rfl,by decide +kernel,rfl,by decide +kernel,by decide +kernel⟩
def uD:Sp:=fun vs H Q _=>∃(w:Addr),vs=[.ref w]/\Wl H w/\∀p xs H',Kp w H H'->LnAt H' p xs->xs.Ok->Q (.ref p) H'
theorem oG {ns:List Str} {i:Int} (h0:0<=i) (h1:i<ns.length):∃z,z ∈ ns/\atI (ns.map V.str) i=some (.str z):=by
 obtain⟨k,rfl⟩:=Int.eq_ofNat_of_zero_le h0
 have hk:k<ns.length:=by omega
 exact⟨ns[k],List.getElem_mem hk,aJ (by rw [List.getElem?_map,List.getElem?_eq_getElem hk];rfl)⟩
theorem ok_free {f fD fA fW:Addr} {fd fdD fdA fdW:FuncData} (F:Fun K "_law_free_line" "_law_free_line" sFree f fd) (G:Gb mg)
  (GD:aY P w K mg base CX0 1 fD fdD ["_law_well_here","_law_most"] eD) (kp:keepIn K (.ref fD)=true) (bD:bV K fdD ["_law_well_here","_law_most"] []) (mD:mg "_law_draw"=some (.ref fD))
  (GA:aY P w K mg base CX0 2 fA fdA ["_law_well_here"] spFar) (kA:keepIn K (.ref fA)=true) (bA:bV K fdA ["_law_well_here"] []) (mA:mg "_law_far"=some (.ref fA))
  (GW:aY P w K mg base CX0 2 fW fdW ["_law_well_here"] spWord) (kW:keepIn K (.ref fW)=true) (bW:bV K fdW ["_law_well_here"] []) (mW:mg "_law_any_word"=some (.ref fW)):
  aY P w K mg base CX0 3 f fd ["_law_well_here"] uD:=by
 refine F.ok iY (fun vs H Q E h=>?_) (fun cdv A outer s H vs Q E hr h=>?_)
 ·obtain⟨w',rfl,_⟩:=h
  rfl
 ·obtain⟨w',rfl,hw,q⟩:=h
  have GD2:aY P w K mg base CX0 2 fD fdD ["_law_well_here","_law_most"] eD:=GD.mono (by decide)
  refine⟨_,(aD (aN (i:=1) iY.nd rfl (Or.inl rfl) (aH GD2 hr rfl mD kp bD .nil aX (aA (pv 0) (aA aC aB)))) (aD (aN (i:=2) iY.nd rfl (Or.inl rfl) (aH GA hr rfl mA kA bA .nil aX (aA (pv 0) aB))) (aD (aN (i:=3) iY.nd rfl (Or.inl rfl) (aH GA hr rfl mA kA bA .nil aX (aA (pv 0) aB))) (aD (cB (aS dB (pv 1) aC (bF _)) (aD (aN (i:=4) iY.nd rfl (Or.inl rfl) (aZ aR (bU (aA aF (aA aF aB))) (aH GD2 hr rfl mD kp bD .nil aX (aA (pv 0) (aA aC aB))) (fun _ _=>rfl))) (aD (aN (i:=5) iY.nd rfl (Or.inl rfl) (aZ aR (bU (aA (aH GW hr rfl mW kW bW .nil aX (aA (pv 0) aB)) (aA (aH GW hr rfl mW kW bW .nil aX (aA (pv 0) aB)) (aA aF (aA (pv 4) aB))))) (aH GD2 hr rfl mD kp bD .nil aX (aA (pv 0) (aA aC aB))) (fun _ _=>rfl))) (aI (aT (bZ (aA aF (aA (pv 2) (aA (pv 5) (aA (pv 3) (aA (aH GA hr rfl mA kA bA .nil aX (aA (pv 0) aB)) aB)))))))))) aW) (aD (cB (aS iT (pv 1) aC (bF _)) (aD (aN (i:=6) iY.nd rfl (Or.inl rfl) (aZ aR (bU (aA aC (aA (aH GD2 hr rfl mD kp bD .nil aX (aA (pv 0) (aA aC aB))) (aA (aH GD2 hr rfl mD kp bD .nil aX (aA (pv 0) (aA aC aB))) aB)))) (aH GD2 hr rfl mD kp bD .nil aX (aA (pv 0) (aA aC aB))) (fun _ _=>rfl))) (aI (aT (bZ (aA aF (aA (pv 2) (aA (pv 3) (aA (aH GA hr rfl mA kA bA .nil aX (aA (pv 0) aB)) (aA (cF cN (by rfl) G.tuple eX (aA (eP (NB:=["_law_k","_law_well_here"]) (n:=1) (js:=[0]) (cl:=[("_law_well_here",s.heap.objs.size+1)]) rfl (by decide +kernel) (by decide +kernel) rfl
      (dZ.of rfl (all_cons rfl bE) (all_cons (fun z=>nomatch z) (all_cons (fun z=>nomatch z) (all_cons (fun z=>nomatch z) (all_cons (fun _=>rfl) bE)))) rfl
       (fun k j h=>match k,j,h with|0,_,rfl=>rfl|k+1,_,h=>absurd h (by simp)) (all_cons ⟨.inl rfl,.inl rfl,rfl⟩ bE))
      (gI rfl G.range (aA (pv 6) aB))
      (fun C s H fp pn=>cC (i:=0) ndF rfl (Or.inl rfl) (.inr rfl)) (fun C s H fp pn=>dF)
      (fun C s H fp pn=>aH GA hr rfl mA kA bA .nil aX (aA (pv 1) aB))) aB)) aB))))))))) aW) (aD (cB (aS dB (pv 1) aC (bF _)) (aI (aT (bZ (aA aF (aA (pv 2) (aA (pv 3) aB)))))) aW) (aD (cB (aS dB (pv 1) aC (bF _)) (aI (aT (bZ (aA aF (aA (pv 2) (aA (pv 3) aB)))))) aW) (aI (aT (bZ (aA aF (aA (pv 2) aB)))))))))))),?_⟩
  have sl:sizeLine=16777216:=sizeLine_eq
  refine⟨_,rfl,w',6,rfl,hw,by decide,by decide,fun way H1 k1 a1 b1=>?_⟩
  refine⟨_,rfl,w',rfl,k1.wl,fun one H2 k2 c2=>?_⟩
  refine⟨_,rfl,w',rfl,k2.wl,fun other H3 k3 c3=>?_⟩
  have kA:Kp w' H H3:=k1.trans (k2.trans k3)
  refine⟨_,rfl,rfl,_,rfl,?_⟩
  refine cI (fun _=>?_) (fun _=>?_)
  ·
   refine⟨by show 2<=sizeLine;decide,fun l1 h1=>?_⟩
   have kB:Kp w' H (upd H3 l1 (.lst [.str "lent",.str "0"])):=kA.same (aG h1)
   have e1:(upd H3 l1 (.lst [.str "lent",.str "0"])) l1=some (.lst [.str "lent",.str "0"]):=aE
   have n1:l1≠w':=(kA.wl.ne h1).symm
   refine⟨_,rfl,w',2,rfl,kB.wl,by decide,by decide,fun r4 H4 k4 a4 b4=>?_⟩
   obtain⟨z1,m1,g1⟩:=oG (ns:=["lent","0"]) (i:=r4) a4 (by show r4<((2:Nat):Int);omega)
   have B1:Tm.wdB z1=true:=by
    simp only [List.mem_cons,List.not_mem_nil,or_false] at m1
    rcases m1 with rfl|rfl <;> decide +kernel
   refine⟨l1,_,_,_,rfl,rfl,SqL.of (k4.at_ _ _ n1 e1),g1,?_⟩
   have kC:=kB.trans k4
   refine⟨_,rfl,w',rfl,kC.wl,fun x5 H5 k5 c5=>?_⟩
   refine⟨_,rfl,w',rfl,k5.wl,fun x6 H6 k6 c6=>?_⟩
   refine⟨_,rfl,by show 4<=sizeLine;decide,fun l2 h2=>?_⟩
   have kD:Kp w' H (upd H6 l2 (.lst [.str x5,.str x6,.str "ann",.str z1])):=(kC.trans (k5.trans k6)).same (aG h2)
   have e2:(upd H6 l2 (.lst [.str x5,.str x6,.str "ann",.str z1])) l2=some (.lst [.str x5,.str x6,.str "ann",.str z1]):=aE
   have n2:l2≠w':=(k6.wl.ne h2).symm
   refine⟨_,rfl,w',4,rfl,kD.wl,by decide,by decide,fun r7 H7 k7 a7 b7=>?_⟩
   obtain⟨z2,m2,g2⟩:=oG (ns:=[x5,x6,"ann",z1]) (i:=r7) a7 (by show r7<((4:Nat):Int);omega)
   have B2:Tm.wdB z2=true:=by
    simp only [List.mem_cons,List.not_mem_nil,or_false] at m2
    rcases m2 with rfl|rfl|rfl|rfl
    ·exact c5
    ·exact c6
    ·decide +kernel
    ·exact B1
   refine⟨l2,_,_,_,rfl,rfl,SqL.of (k7.at_ _ _ n2 e2),g2,?_⟩
   have kE:=kD.trans k7
   refine⟨_,rfl,_,rfl,_,rfl,_,rfl,w',rfl,kE.wl,fun x8 H8 k8 c8=>⟨by show 5<=sizeLine;decide,fun p hp=>?_⟩⟩
   exact q p (.lent one z2 other x8) _ ((kE.trans k8).same (aG hp)) aE ⟨c2.bd,B2,c3.bd,c8.bd⟩
  ·refine⟨_,rfl,_,_,rfl,rfl,_,rfl,?_⟩
   refine cI (fun _=>?_) (fun _=>?_)
   ·
    refine⟨_,rfl,w',4,rfl,kA.wl,by decide,by decide,fun r1 H4 k4 a4 b4=>?_⟩
    refine⟨_,rfl,w',40,rfl,k4.wl,by decide,by decide,fun r2 H5 k5 a5 b5=>⟨by show 3<=sizeLine;decide,fun l1 h1=>?_⟩⟩
    have kB:Kp w' H (upd H5 l1 (.lst [.int 0,.int r1,.int r2])):=(kA.trans (k4.trans k5)).same (aG h1)
    have e1:(upd H5 l1 (.lst [.int 0,.int r1,.int r2])) l1=some (.lst [.int 0,.int r1,.int r2]):=aE
    have n1:l1≠w':=(k5.wl.ne h1).symm
    refine⟨_,rfl,w',3,rfl,kB.wl,by decide,by decide,fun r3 H6 k6 a6 b6=>?_⟩
    obtain⟨z1,m1,g1⟩:=sD (ns:=[0,r1,r2]) (i:=r3) a6 (by show r3<((3:Nat):Int);omega)
    refine⟨l1,_,_,_,rfl,rfl,SqL.of (k6.at_ _ _ n1 e1),g1,?_⟩
    have B1:0<=z1/\z1<=40:=by
     simp only [List.mem_cons,List.not_mem_nil,or_false] at m1
     omega
    have kC:=kB.trans k6
    refine⟨_,rfl,_,rfl,_,rfl,w',rfl,kC.wl,fun x7 H7 k7 c7=>?_⟩
    have kD:=kC.trans k7
    refine⟨_,rfl,z1,rfl,by omega,by omega,fun acc hacc=>?_⟩
    have na:acc≠w':=(kD.wl.ne hacc).symm
    have ha0:H acc=none:=kD.fresh na hacc
    refine⟨fun i m ys H'=>m=z1.toNat-i/\i<=z1.toNat/\(∃ns:List Int,ys=ns.map V.int/\ns.length=i/\∀n ∈ ns,Bd n)/\Kp w' H H'/\H' acc=some (.lst ys),⟨_,rfl,Nat.zero_le _,⟨[],rfl,rfl,bE⟩,kD.upd na ha0,aE⟩,?_⟩
    rintro i m ys H' ⟨rfl,hi,⟨ns,rfl,hnl,hn1⟩,kE,ha⟩
    refine⟨ha,?_⟩
    by_cases hlt:i<z1.toNat
    ·refine .inr ⟨hlt,?_⟩
     rintro x H'' ⟨rfl,rfl⟩
     refine dC ?_
     refine⟨rfl,?_⟩
     refine dH ?_
     refine cZ ?_
     refine⟨_,rfl,w',rfl,kE.wl,fun r H9 k9 c9=>?_⟩
     refine⟨k9.at_ _ _ na ha,by rw [List.length_map];omega,_,?_,rfl,hlt,⟨ns++[r],?_,?_,?_⟩,(kE.trans k9).upd na ha0,aE⟩
     ·omega
     ·rw [List.map_append]
      rfl
     ·rw [List.length_append,hnl]
      rfl
     ·intro y hy
      rcases List.mem_append.mp hy with hy|hy
      ·exact hn1 y hy
      ·rw [List.mem_singleton.mp hy]
       exact c9.bd
    ·refine .inl ⟨by show z1.toNat<=i;omega,acc,_,rfl,.inl ⟨SqL.of ha,fun t ht=>⟨by show 5<=sizeLine;decide,fun p hp=>?_⟩⟩⟩
     exact q p (.told one other x7 ns) _ ((kE.same (aG ht)).same (aG hp)) ⟨_,aE,aG hp _ _ aE⟩ ⟨c2.bd,c3.bd,c7.bd,by omega,hn1⟩
   ·refine⟨_,rfl,rfl,_,rfl,?_⟩
    refine cI (fun _=>?_) (fun _=>?_)
    ·refine⟨_,rfl,_,rfl,by show 3<=sizeLine;decide,fun p hp=>?_⟩
     exact q p (.back one other) _ (kA.same (aG hp)) aE ⟨c2.bd,c3.bd⟩
    ·refine⟨_,rfl,rfl,_,rfl,?_⟩
     refine cI (fun _=>?_) (fun _=>?_)
     ·refine⟨_,rfl,_,rfl,by show 3<=sizeLine;decide,fun p hp=>?_⟩
      exact q p (.cut one other) _ (kA.same (aG hp)) aE ⟨c2.bd,c3.bd⟩
     ·refine⟨_,rfl,by show 2<=sizeLine;decide,fun p hp=>?_⟩
      exact q p (.join one) _ (kA.same (aG hp)) aE c2.bd
end
end Lt
namespace Ls
open PySem L2 PySem.W
def top (i:Nat):Stmt:=PySem.Challenge.pw_lentwork_k36_texts_of_no_book.main.body.getD i (.Pass ⟨0,0,0,0⟩)
abbrev sWhole:Stmt:=top 23
abbrev sStretch:Stmt:=top 24
abbrev sWork:Stmt:=top 25
abbrev sCheck:Stmt:=top 26
abbrev sWord:Stmt:=top 50
theorem len1 {α:Type} {us:List α} (h:us.length=1):∃a,us=[a]:=by
 cases us with
 | nil=>cases h
 | cons a t=>exact⟨a,by rw [List.length_eq_zero_iff.mp (Nat.succ.inj h)]⟩
theorem len2 {α:Type} {us:List α} (h:us.length=2):∃a b,us=[a,b]:=by
 cases us with
 | nil=>cases h
 | cons a t=>
  obtain⟨b,rfl⟩:=len1 (Nat.succ.inj h)
  exact⟨a,b,rfl⟩
inductive Kn (H:Hp):V->Prop where
 | non:Kn H .non
 | bl (b:Bool):Kn H (.bl b)
 | int (i:Int):Kn H (.int i)
 | str (x:Str):Kn H (.str x)
 | lst {a:Addr} {xs:List V} (e:H a=some (.lst xs)):Kn H (.ref a)
 | dK {a:Addr} {kvs:List (Key × V)} (e:H a=some (.dK kvs)):Kn H (.ref a)
inductive Knd (H:Hp):V->Prop where
 | kn {x:V} (h:Kn H x):Knd H x
 | tup {a:Addr} {xs:List V} (e:H a=some (.tup xs)):Knd H (.ref a)
def lM:V->Bool
 | .int _=>true
 | _=>false
theorem ans_int {K:Frag} {H:Hp} {x:V} (h:Knd H x):∃t,gW K H x t/\kitOne K t (.type "int")=some (match x with | .int _=>true | .bl _=>true|_=>false):=by
 cases h with
 | kn h=>
  cases h with
  | non=>exact⟨_,.non,by kernel_rfl⟩
  | bl b=>exact⟨_,.bl b,by kernel_rfl⟩
  | int i=>exact⟨_,.int i,by rfl⟩
  | str x=>exact⟨_,.str x,by kernel_rfl⟩
  | lst q=>exact⟨_,.lst q,by kernel_rfl⟩
  | dK q=>exact⟨_,.dK q,by kernel_rfl⟩
 | tup q=>exact⟨_,.tup q,by kernel_rfl⟩
theorem AbA {K:Frag} {H:Hp} {x:V} (h:Knd H x):∃t,gW K H x t/\kitOne K t (.type "bool")=some (match x with | .bl _=>true|_=>false):=by
 cases h with
 | kn h=>
  cases h with
  | non=>exact⟨_,.non,by kernel_rfl⟩
  | bl b=>exact⟨_,.bl b,by rfl⟩
  | int i=>exact⟨_,.int i,by kernel_rfl⟩
  | str x=>exact⟨_,.str x,by kernel_rfl⟩
  | lst q=>exact⟨_,.lst q,by kernel_rfl⟩
  | dK q=>exact⟨_,.dK q,by kernel_rfl⟩
 | tup q=>exact⟨_,.tup q,by kernel_rfl⟩
theorem tJ {K:Frag} {H:Hp} {x:V} (h:Kn H x):∃t,gW K H x t/\kitOne K t (.type "tuple")=some false:=by
 cases h with
 | non=>exact⟨_,.non,by kernel_rfl⟩
 | bl b=>exact⟨_,.bl b,by kernel_rfl⟩
 | int i=>exact⟨_,.int i,by kernel_rfl⟩
 | str x=>exact⟨_,.str x,by kernel_rfl⟩
 | lst q=>exact⟨_,.lst q,by kernel_rfl⟩
 | dK q=>exact⟨_,.dK q,by kernel_rfl⟩
theorem tI {K:Frag} {H:Hp} {a:Addr} {xs:List V} (q:H a=some (.tup xs)):∃t,gW K H (.ref a) t/\kitOne K t (.type "tuple")=some true:=⟨_,.tup q,by rfl⟩
structure Gb (mg:Str->Option Value):Prop where
 isi:mg "isinstance"=none
 int:mg "int"=none
 bool:mg "bool"=none
 tuple:mg "tuple"=none
 len:mg "len"=none
 range:mg "range"=none
 list:mg "list"=none
 max:mg "max"=none
 sum:mg "sum"=none
 all:mg "all"=none
 enum:mg "enumerate"=none
 min:mg "min"=none
def spWhole:Sp:=fun vs H Q _=>∃x,vs=[x]/\Knd H x/\Q (.bl (lM x)) H
inductive StrV (H:Hp):V->Option (Int × Int)->Prop where
 | no {x:V} (h:Kn H x):StrV H x none
 | len {a:Addr} {xs:List V} (e:H a=some (.tup xs)) (h:xs.length≠2):StrV H (.ref a) none
 | one {a:Addr} {x y:V} (e:H a=some (.tup [x,y])) (hx:Knd H x) (hy:Knd H y) (h:lM x=false\/lM y=false):StrV H (.ref a) none
 | turned {a:Addr} {l h:Int} (e:H a=some (.tup [.int l,.int h])) (n:h<=l):StrV H (.ref a) none
 | yes {a:Addr} {l h:Int} (e:H a=some (.tup [.int l,.int h])) (n:l<h):StrV H (.ref a) (some (l,h))
def oB:Sp:=fun vs H Q _=>∃x o,vs=[x]/\StrV H x o/\Q (.bl o.isSome) H
section
variable {P:Program} {w:World} {K:PySem.W.Frag} {mg:Str->Option Value} {base:Heap}
theorem boot_isi:bootBuiltins "isinstance"=some (.builtin "isinstance"):=by decide +kernel
theorem gU:bootBuiltins "int"=some (.type "int"):=by decide +kernel
theorem boot_b:bootBuiltins "bool"=some (.type "bool"):=by decide +kernel
theorem eX:bootBuiltins "tuple"=some (.type "tuple"):=by decide +kernel
theorem boot_l:bootBuiltins "list"=some (.type "list"):=by decide +kernel
theorem boot_mx:bootBuiltins "max"=some (.builtin "max"):=by decide +kernel
theorem boot_sum:bootBuiltins "sum"=some (.builtin "sum"):=by decide +kernel
theorem boot_all:bootBuiltins "all"=some (.builtin "all"):=by decide +kernel
theorem boot_mn:bootBuiltins "min"=some (.builtin "min"):=by decide +kernel
theorem scWhole:bO ["thing"] ["thing"] (aM sWhole):=⟨rfl,rfl,rfl,by decide +kernel,rfl,by decide +kernel,by decide +kernel⟩
theorem ok_whole {f:Addr} {fd:FuncData} (F:Fun K "is_whole" "is_whole" sWhole f fd) (G:Gb mg):aY P w K mg base CX0 1 f fd ["thing"] spWhole:=by
 refine F.ok scWhole (fun vs H Q E h=>?_) (fun cdv A outer s H vs Q E hr h=>?_)
 ·obtain⟨x,rfl,_⟩:=h
  rfl
 ·obtain⟨x,rfl,hx,q⟩:=h
  refine⟨_,aI (aT (mI (aO bG (by rfl) G.isi boot_isi (aA (pv 0) (aA (gS (v:=.ty "int") (by rfl) G.int gU rfl) aB)))
   (jZ (yZ (aO bG (by rfl) G.isi boot_isi (aA (pv 0) (aA (gS (v:=.ty "bool") (by rfl) G.bool boot_b rfl) aB))))))),?_⟩
  obtain⟨t,ty,e⟩:=ans_int (K:=K) hx
  obtain⟨t2,ty2,e2⟩:=AbA (K:=K) hx
  refine⟨_,rfl,_,_,_,_,rfl,.ty "int",.inl ⟨t,ty,e⟩,_,rfl,?_⟩
  refine cI (fun hc=>?_) (fun hc=>?_)
  ·refine⟨_,rfl,_,_,_,_,rfl,.ty "bool",.inl ⟨t2,ty2,e2⟩,_,rfl,?_⟩
   cases x <;> first|exact q|cases hc
  ·cases x <;> first|exact q|exact absurd rfl hc
theorem xF:bO ["thing"] ["thing"] (aM sStretch):=⟨rfl,rfl,rfl,by decide +kernel,rfl,by decide +kernel,by decide +kernel⟩
theorem uX {f fW:Addr} {fd fdW:FuncData} (F:Fun K "is_stretch" "is_stretch" sStretch f fd) (G:Gb mg) (FW:Fun K "is_whole" "is_whole" sWhole fW fdW) (bW:bV K fdW ["thing"] []) (mW:mg "is_whole"=some (.ref fW)):aY P w K mg base CX0 2 f fd ["thing"] oB:=by
 have GW:aY P w K mg base CX0 1 fW fdW ["thing"] spWhole:=ok_whole FW G
 refine F.ok xF (fun vs H Q E h=>?_) (fun cdv A outer s H vs Q E hr h=>?_)
 ·obtain⟨x,o,rfl,_⟩:=h
  rfl
 ·obtain⟨x,o,rfl,hx,q⟩:=h
  refine⟨_,aD (cB (PW.pt (gE (dL (dX (aO bG (by rfl) G.isi boot_isi (aA (pv 0) (aA (gS (v:=.ty "tuple") (by rfl) G.tuple eX rfl) aB)))))
    (eT (aS kK (aO bJ (by rfl) G.len PySem.boot_len (aA (pv 0) aB)) aC (bF _))))) (aI (aT hZ)) aW)
   (aI (aT (mI (aH GW hr rfl mW FW.kp bW .nil aX (aA (aZ cK (pv 0) aC (fun _ _=>rfl)) aB))
    (mI (aH GW hr rfl mW FW.kp bW .nil aX (aA (aZ cK (pv 0) aC (fun _ _=>rfl)) aB))
     (jZ (dN iT (aZ cK (pv 0) aC (fun _ _=>rfl)) (aZ cK (pv 0) aC (fun _ _=>rfl)) (bF _))))))),?_⟩
  have tupA:∀{a:Addr} {xs:List V},x=.ref a->H a=some (.tup xs)->(xs.length≠2->Q (.bl false) H)->(∀u v,xs=[u,v]->Knd H u/\Knd H v/\(lM u=false->Q (.bl false) H)/\(lM v=false->Q (.bl false) H)/\∀l h,u=.int l->v=.int h->Q (.bl (decide (l<h))) H) ->
   (tSeq (tIfS (tOr (tNot (tB (tCB (fQ K) (gG (hJ 0) (gG (tC (.ty "tuple")) kT))))) (vJ (tOp rNe (tCB (fun xs H Q=>∃p ys,xs=[.ref p]/\(SqL K H p ys\/SqT K H p ys)/\Q (.int ys.length) H) (gG (hJ 0) kT)) (tC (.int 2))))) (tRet (tC (.bl false))) tNext)
    (tRet (tAndV (nY spWhole [] E0 (gG (tOp (rIxT K) (hJ 0) (tC (.int 0))) kT)) (tAndV (nY spWhole [] E0 (gG (tOp (rIxT K) (hJ 0) (tC (.int 1))) kT)) (tOp (rI0 fun i j=>.bl (decide (i<j))) (tOp (rIxT K) (hJ 0) (tC (.int 0))) (tOp (rIxT K) (hJ 0) (tC (.int 1))))))))
    { nx:=fun _ H'=>Q .non H',rt:=Q } (dD ["thing"] [x]) H:=fun {a xs} ex ea q1 q2=>by
   subst ex
   obtain⟨t,ty,e⟩:=tI (K:=K) ea
   refine⟨_,rfl,_,_,_,_,rfl,.ty "tuple",.inl ⟨t,ty,e⟩,_,rfl,?_⟩
   refine eM ?_
   refine⟨_,rfl,a,xs,rfl,.inr (SqT.of ea),rfl,_,rfl,?_⟩
   refine cI (fun hc=>?_) (fun hc=>?_)
   ·refine q1 fun z=>?_
    rw [z] at hc
    cases hc
   ·have z:xs.length=2:=by
     by_cases z:xs.length=2
     ·exact z
     ·refine absurd ?_ hc
      have:decide (V.int (xs.length:Int)=V.int 2)=false:=decide_eq_false fun w=>z (by injection w with w;omega)
      rw [this]
      rfl
    obtain⟨u,v,rfl⟩:=len2 z
    obtain⟨ku,kv,qu,qv,ql⟩:=q2 u v rfl
    refine⟨_,rfl,a,_,_,_,rfl,rfl,SqT.of ea,aJ (j:=0) rfl,_,rfl,ku,_,rfl,?_⟩
    refine cI (fun hu=>?_) (fun hu=>qu (by simpa using hu))
    refine⟨_,rfl,a,_,_,_,rfl,rfl,SqT.of ea,aJ (j:=1) rfl,_,rfl,kv,_,rfl,?_⟩
    refine cI (fun hv=>?_) (fun hv=>qv (by simpa using hv))
    obtain⟨l,rfl⟩:∃l,u=.int l:=by
     cases u <;> first|exact⟨_,rfl⟩|cases hu
    obtain⟨h,rfl⟩:∃h,v=.int h:=by
     cases v <;> first|exact⟨_,rfl⟩|cases hv
    exact⟨_,rfl,a,_,_,_,rfl,rfl,SqT.of ea,aJ (j:=0) rfl,_,rfl,a,_,_,_,rfl,rfl,SqT.of ea,aJ (j:=1) rfl,_,_,rfl,rfl,ql l h rfl rfl⟩
  cases hx with
  | no h=>
   obtain⟨t,ty,e⟩:=tJ (K:=K) h
   refine⟨_,rfl,_,_,_,_,rfl,.ty "tuple",.inl ⟨t,ty,e⟩,_,rfl,?_⟩
   refine cZ ?_
   exact cZ q
  | len ea hl=>exact tupA rfl ea (fun _=>q) fun u v z=>absurd (by rw [z];rfl) hl
  | one ea hu hv hw=>
   refine tupA rfl ea (fun z=>absurd rfl z) fun u v z=>?_
   cases z
   refine⟨hu,hv,fun _=>q,fun _=>q,fun l h z1 z2=>?_⟩
   subst z1
   subst z2
   rcases hw with z|z <;> cases z
  | turned ea n=>
   refine tupA rfl ea (fun z=>absurd rfl z) fun u v z=>?_
   cases z
   refine⟨.kn (.int _),.kn (.int _),fun _=>q,fun _=>q,fun l h z1 z2=>?_⟩
   cases z1
   cases z2
   rw [decide_eq_false (by omega)]
   exact q
  | yes ea n=>
   refine tupA rfl ea (fun z=>absurd rfl z) fun u v z=>?_
   cases z
   refine⟨.kn (.int _),.kn (.int _),fun z=>(nomatch z),fun z=>(nomatch z),fun l h z1 z2=>?_⟩
   cases z1
   cases z2
   rw [decide_eq_true n]
   exact q
theorem jB {α β:Type} {F:α->β->Prop}:∀{xs:List α} {ys:List β} {i:Nat} {x:α},Paired F xs ys->xs[i]?=some x->∃y,ys[i]?=some y/\F x y
 | _,_,_,_,.nil,e=>by simp at e
 | _,_,0,_,.cons r _,e=>by
  simp at e
  subst e
  exact⟨_,rfl,r⟩
 | _,_,i+1,x,.cons _ t,e=>by
  obtain⟨u,h1,h2⟩:=jB (i:=i) (x:=x) t (by simpa using e)
  exact⟨u,by simpa using h1,h2⟩
def WorkP (os:List (Option (Int × Int))):Prop:=(∀(j:Nat) (o:Option (Int × Int)),os[j]?=some o->o.isSome=true)/\∀(k:Nat) (l h l' h':Int),os[k]?=some (some (l,h))->os[k+1]?=some (some (l',h'))->h<=l'
inductive WorkV (H:Hp):V->Bool->Prop where
 | no {x:V} (h:Kn H x):WorkV H x false
 | tup {a:Addr} {xs:List V} {os:List (Option (Int × Int))} {b:Bool} (e:H a=some (.tup xs)) (hl:xs.length<=100000) (h:Paired (StrV H) xs os) (hb:b=true↔WorkP os):WorkV H (.ref a) b
def spWork:Sp:=fun vs H Q _=>∃x b,vs=[x]/\WorkV H x b/\Q (.bl b) H
theorem uE:bO ["thing","stretch","index"] ["thing"] (aM sWork):=⟨rfl,rfl,rfl,by decide +kernel,rfl,by decide +kernel,by decide +kernel⟩
theorem ok_work {f fS fW:Addr} {fd fdS fdW:FuncData} (F:Fun K "is_work" "is_work" sWork f fd) (G:Gb mg) (FW:Fun K "is_whole" "is_whole" sWhole fW fdW) (bW:bV K fdW ["thing"] []) (mW:mg "is_whole"=some (.ref fW))
  (FS:Fun K "is_stretch" "is_stretch" sStretch fS fdS) (bS:bV K fdS ["thing"] []) (mS:mg "is_stretch"=some (.ref fS)):aY P w K mg base CX0 3 f fd ["thing"] spWork:=by
 have GS:aY P w K mg base CX0 2 fS fdS ["thing"] oB:=uX FS G FW bW mW
 refine F.ok uE (fun vs H Q E h=>?_) (fun cdv A outer s H vs Q E hr h=>?_)
 ·obtain⟨x,b,rfl,_⟩:=h
  rfl
 ·obtain⟨x,b,rfl,hx,q⟩:=h
  refine⟨_,aD (cB (dL (dX (aO bG (by rfl) G.isi boot_isi (aA (pv 0) (aA (gS (v:=.ty "tuple") (by rfl) G.tuple eX rfl) aB))))) (aI (aT hZ)) aW)
   (aD (gR PassesOwn.never rfl (qG (pv 0)) (cC (i:=1) uE.nd rfl (Or.inl rfl)) (aI (cB (dL (dX (aH GS hr rfl mS FS.kp bS .nil aX (aA (pv 1) aB)))) (aI (aT hZ)) aW)))
   (aD (gR PassesOwn.never rfl (oI rfl G.range (aA aC (aA (aO bJ (by rfl) G.len PySem.boot_len (aA (pv 0) aB)) aB))) (cC (i:=2) uE.nd rfl (Or.inl rfl))
    (aI (cB (aS iT (aZ cK (aZ cK (pv 0) (pv 2) (fun _ _=>rfl)) aC (fun _ _=>rfl)) (aZ cK (aZ cK (pv 0) (aK eV (pv 2) aC) (fun _ _=>rfl)) aC (fun _ _=>rfl)) (bF _)) (aI (aT hZ)) aW)))
   (aI (aT hZ)))),?_⟩
  cases hx with
  | no h=>
   obtain⟨t,ty,e⟩:=tJ (K:=K) h
   refine⟨_,rfl,_,_,_,_,rfl,.ty "tuple",.inl ⟨t,ty,e⟩,_,rfl,?_⟩
   exact cZ q
  | @tup a xs os b ea hl hp hb=>
   obtain⟨t,ty,e⟩:=tI (K:=K) ea
   refine⟨_,rfl,_,_,_,_,rfl,.ty "tuple",.inl ⟨t,ty,e⟩,_,rfl,?_⟩
   refine eM ?_
   refine⟨_,rfl,a,rfl,⟨_,SqT.of ea⟩,qO (K:=K) (a:=a) (xs:=xs) (fun i σ H2=>H2=H/\(∃v,σ=[some (.ref a),v,none])/\∀(j:Nat) (o:Option (Int × Int)),j<i->os[j]?=some o->o.isSome=true)
    ⟨rfl,⟨none,rfl⟩,fun j o hj=>absurd hj (Nat.not_lt_zero _)⟩ (fun i σ H2 _ ⟨e2,_⟩=>by subst e2;exact SqT.of ea) ?_ ?_⟩
   ·rintro i y σ H2 hi ⟨rfl,⟨v,rfl⟩,hall⟩
    obtain⟨o,ho,hs⟩:=jB hp hi
    refine⟨_,rfl,y,o,rfl,hs,_,rfl,?_⟩
    cases o with
    | none=>
     refine cZ ?_
     have:b=false:=by
      cases b with
      | false=>rfl
      | true=>exact absurd ((hb.mp rfl).1 i none ho) (by simp)
     rw [this] at q
     exact q
    | some p=>
     refine eM ?_
     refine⟨rfl,⟨_,rfl⟩,fun j o' hj hj'=>?_⟩
     by_cases hji:j<i
     ·exact hall j o' hji hj'
     ·have:j=i:=by omega
      subst this
      rw [ho] at hj'
      cases hj'
      rfl
   ·rintro σ H2 ⟨rfl,⟨v,rfl⟩,hall⟩
    have len:os.length=xs.length:=hp.length.symm
    have at_:∀(k:Nat),k<xs.length->∃(c:Addr) (l h:Int),xs[k]?=some (.ref c)/\H2 c=some (.tup [.int l,.int h])/\os[k]?=some (some (l,h)):=fun k hk=>by
     have e1:xs[k]?=some xs[k]:=List.getElem?_eq_getElem hk
     obtain⟨o,ho,hs⟩:=jB hp e1
     have hso:=hall k o hk ho
     cases o with
     | none=>cases hso
     | some p=>
      generalize xs[k]=y at e1 hs
      cases hs with
      | @yes c l h ec n=>exact⟨c,l,h,e1,ec,ho⟩
    have hz:xs.length<2 ^ 62:=Nat.lt_of_le_of_lt hl (by decide)
    refine⟨_,rfl,a,xs,rfl,.inr (SqT.of ea),1,(xs.length:Int),rfl,⟨by decide,by decide,by omega,by omega⟩,iN (lo:=1) (n:=((xs.length:Int)-1).toNat)
     (fun i σ H3=>H3=H2/\(∃v u,σ=[some (.ref a),v,u])/\∀(k:Nat) (l h l' h':Int),k<i->os[k]?=some (some (l,h))->os[k+1]?=some (some (l',h'))->h<=l') ⟨rfl,⟨_,_,rfl⟩,fun k l h l' h' hk=>absurd hk (Nat.not_lt_zero _)⟩ ?_ ?_⟩
    ·rintro i σ H3 hi ⟨rfl,⟨v,u,rfl⟩,hr2⟩
     obtain⟨c,l,h,x1,x2,x3⟩:=at_ i (by omega)
     obtain⟨c',l',h',y1,y2,y3⟩:=at_ (i+1) (by omega)
     have i1:(1:Int)+(i:Int)=((i+1:Nat):Int):=by omega
     have i2:((i+1:Nat):Int)-1=((i:Nat):Int):=by omega
     rw [i1]
     refine⟨_,rfl,_,rfl,a,xs,_,_,rfl,rfl,SqT.of ea,aJ y1,c',_,_,_,rfl,rfl,SqT.of y2,aJ (j:=0) rfl,_,rfl,_,rfl,_,_,rfl,rfl,a,xs,_,_,rfl,rfl,SqT.of ea,(by rw [i2];exact aJ x1),c,_,_,_,rfl,rfl,SqT.of x2,aJ (j:=1) rfl,_,_,rfl,rfl,_,rfl,?_⟩
     refine cI (fun hc=>?_) (fun hc=>?_)
     ·have hc':l'<h:=by simpa using hc
      have:b=false:=by
       cases b with
       | false=>rfl
       | true=>
        have:=(hb.mp rfl).2 i l h l' h' x3 y3
        omega
      rw [this] at q
      exact q
     ·have hc':¬ l'<h:=by simpa using hc
      refine⟨rfl,⟨_,_,rfl⟩,fun k l2 h2 l3 h3 hk e1 e2=>?_⟩
      by_cases hki:k<i
      ·exact hr2 k l2 h2 l3 h3 hki e1 e2
      ·have:k=i:=by omega
       subst this
       rw [x3] at e1
       rw [y3] at e2
       cases e1
       cases e2
       omega
    ·rintro σ H3 ⟨rfl,⟨v,u,rfl⟩,hr2⟩
     have:b=true:=hb.mpr ⟨fun j o hj=>hall j o (by rw [<- len];exact(List.getElem?_eq_some_iff.mp hj).1) hj,fun k l h l' h' e1 e2=>hr2 k l h l' h' (by
      have:=(List.getElem?_eq_some_iff.mp e2).1
      omega) e1 e2⟩
     rw [this] at q
     exact q
def PairAt (H:Hp) (v:V) (p:Int × Int):Prop:=∃b,v=.ref b/\H b=some (.tup [.int p.1,.int p.2])
theorem cA {α β:Type} {F G:α->β->Prop} (f:∀a b,F a b->G a b):∀{xs:List α} {ys:List β},Paired F xs ys->Paired G xs ys
 | _,_,.nil=>.nil
 | _,_,.cons r t=>.cons (f _ _ r) (cA f t)
theorem paired_app {α β:Type} {F:α->β->Prop}:∀{xs:List α} {ys:List β} {us:List α} {vs:List β},Paired F xs ys->Paired F us vs->Paired F (xs++us) (ys++vs)
 | _,_,_,_,.nil,h=>h
 | _,_,_,_,.cons r t,h=>.cons r (paired_app t h)
def lL (H:Hp) (xs:List V) (ps:Lm.Ps):Prop:=Paired (PairAt H) xs ps
theorem lL.same {H H':Hp} {xs:List V} {ps:Lm.Ps} (e:aV H H') (h:lL H xs ps):lL H' xs ps:=cA (fun v q ⟨b,z1,z2⟩=>⟨b,z1,e _ _ z2⟩) h
def WorkM (H:Hp) (p:Addr) (ps:Lm.Ps):Prop:=∃xs,H p=some (.tup xs)/\lL H xs ps
theorem WorkM.same {H H':Hp} {p:Addr} {ps:Lm.Ps} (e:aV H H') (h:WorkM H p ps):WorkM H' p ps:=by
 obtain⟨xs,h1,h2⟩:=h
 exact⟨xs,e _ _ h1,h2.same e⟩
theorem alo {H:Hp} {l:Addr} (n:H l=none) (o:HO):∃H',upd H l o=H'/\aV H H'/\H' l=some o:=⟨_,rfl,aG n,aE⟩
structure Wn (mg:Str->Option Value) (c:Nat->Addr):Prop where
 m0:mg "BadBound"=some (.ref (c 0))
 m1:mg "BadCut"=some (.ref (c 1))
 m2:mg "BadJoin"=some (.ref (c 2))
 m3:mg "BadLine"=some (.ref (c 3))
 m4:mg "BadMoment"=some (.ref (c 4))
 m5:mg "BadPlace"=some (.ref (c 5))
 m6:mg "BadPlan"=some (.ref (c 6))
 m7:mg "BadTelling"=some (.ref (c 7))
 m8:mg "BadWork"=some (.ref (c 8))
 m9:mg "BadWorker"=some (.ref (c 9))
 m10:mg "Down"=some (.ref (c 10))
 m11:mg "Fallen"=some (.ref (c 11))
 m12:mg "Lost"=some (.ref (c 12))
 m13:mg "NoBook"=some (.ref (c 13))
 m14:mg "NoLending"=some (.ref (c 14))
 m15:mg "NoLine"=some (.ref (c 15))
 m16:mg "NoPiece"=some (.ref (c 16))
 m17:mg "NoText"=some (.ref (c 17))
 m18:mg "Otherwise"=some (.ref (c 18))
 m19:mg "Twice"=some (.ref (c 19))
 zip:mg "zip"=none
 mV:mg "ValueError"=none
structure Wc (K:Frag) (c:Nat->Addr) (C:Addr) (j:Nat):Prop where
 e:nK K C
 n:∀i,i<20->kitOne K (.ref C) (.ref (c i))=some (decide (i=j))
 v:kitOne K (.ref C) (.type "ValueError")=some true
theorem boot_ve:bootBuiltins "ValueError"=some (.type "ValueError"):=by decide +kernel
def tP:List Str:=["bound","cut","join","line","moment","place","plan","telling","work","worker","down"]
def tO:List Str:=["fallen","lost","book","lending","row","piece","text","otherwise","twice"]
def fJ:List Str:=tP++tO
def bsJ (j k n:Nat):List V:=(List.range' k n).map fun i=>.bl (decide (i=j))
theorem eO (j k n:Nat):(bsJ j k n).length=n:=by unfold bsJ;rw [List.length_map,List.length_range']
theorem jT (j n m:Nat):bsJ j 0 n++bsJ j n m=bsJ j 0 (n+m):=by
 unfold bsJ
 rw [<- List.map_append]
 congr 1
 have:=List.range'_append (s:=0) (m:=n) (n:=m) (step:=1)
 simpa using this
theorem bsJ_at {j i:Nat} (h:i<20):(bsJ j 0 20)[i]?=some (.bl (decide (i=j))):=by
 unfold bsJ
 rw [List.getElem?_map,List.getElem?_range' (by simpa using h)]
 simp
def nC (j i:Nat):List Str:=if j<i then [fJ.getD j ""] else []
theorem AaL (j i:Nat):(nC j i).length<=20:=by unfold nC;split <;> simp
theorem AaK {j i:Nat} {wd:Str} (h:fJ[i]?=some wd) (e:i=j):nC j (i+1)=nC j i++[wd]:=by
 subst e
 unfold nC
 rw [if_pos (Nat.lt_succ_self _),if_neg (Nat.lt_irrefl _),List.getD_eq_getElem?_getD,h]
 rfl
theorem fndJ_no {j i:Nat} {wd:Str} (h:fJ[i]?=some wd) (e:¬ i=j):nC j (i+1)=nC j i:=by
 unfold nC
 by_cases z:j<i
 ·rw [if_pos z,if_pos (by omega)]
 ·rw [if_neg z,if_neg (by omega)]
theorem AaM {j:Nat} (h:j<20):nC j 20=[fJ.getD j ""]:=if_pos h
def spWord (K:Frag) (c:Nat->Addr) (ea:Addr):Sp:=fun vs H Q _=>∃(C:Addr) (j:Nat),vs=[.ref ea]/\H ea=some (iQ ea C)/\Wc K c C j/\j<20/\∀H',aV H H'->Q (.str (fJ.getD j "")) H'
theorem ndWO:(["_law_word_here","_law_one"]:List Str).Nodup:=by decide +kernel
theorem eJ:bO ["_law_e","_law_kinds","_law_words","_law_found_here"] ["_law_e"] (aM sWord):=⟨rfl,rfl,rfl,by decide +kernel,rfl,by decide +kernel,by decide +kernel⟩
theorem ok_wrd {f:Addr} {fd:FuncData} {c:Nat->Addr} (F:Fun K "_law_word" "_law_word" sWord f fd) (G:Gb mg) (A0:Wn mg c):nJ P w K mg base 1 f fd ["_law_e"] (spWord K c):=by
 refine F.okH eJ (fun ea vs H Q E h=>?_) (fun cdv A outer s H vs Q ea hr h=>?_)
 ·obtain⟨C,j,rfl,_⟩:=h
  rfl
 ·obtain⟨C,j,rfl,he,N,hj,t⟩:=h
  refine⟨_,(aD (aN (i:=1) eJ.nd rfl (Or.inl rfl) (bU (aA (aO (r:=fQ K) bG (by rfl) G.isi boot_isi (aA (pv 0) (aA (cO (v:=.ref (c 0)) (by rfl) (A0.m0) rfl) aB))) (aA (aO (r:=fQ K) bG (by rfl) G.isi boot_isi (aA (pv 0) (aA (cO (v:=.ref (c 1)) (by rfl) (A0.m1) rfl) aB))) (aA (aO (r:=fQ K) bG (by rfl) G.isi boot_isi (aA (pv 0) (aA (cO (v:=.ref (c 2)) (by rfl) (A0.m2) rfl) aB))) (aA (aO (r:=fQ K) bG (by rfl) G.isi boot_isi (aA (pv 0) (aA (cO (v:=.ref (c 3)) (by rfl) (A0.m3) rfl) aB))) aB))))))
   (aD (aN (i:=1) eJ.nd rfl (Or.inl rfl) (aK cE (pv 1) (bU (aA (aO (r:=fQ K) bG (by rfl) G.isi boot_isi (aA (pv 0) (aA (cO (v:=.ref (c 4)) (by rfl) (A0.m4) rfl) aB))) (aA (aO (r:=fQ K) bG (by rfl) G.isi boot_isi (aA (pv 0) (aA (cO (v:=.ref (c 5)) (by rfl) (A0.m5) rfl) aB))) (aA (aO (r:=fQ K) bG (by rfl) G.isi boot_isi (aA (pv 0) (aA (cO (v:=.ref (c 6)) (by rfl) (A0.m6) rfl) aB))) aB))))))
   (aD (aN (i:=1) eJ.nd rfl (Or.inl rfl) (aK cE (pv 1) (bU (aA (aO (r:=fQ K) bG (by rfl) G.isi boot_isi (aA (pv 0) (aA (cO (v:=.ref (c 7)) (by rfl) (A0.m7) rfl) aB))) (aA (aO (r:=fQ K) bG (by rfl) G.isi boot_isi (aA (pv 0) (aA (cO (v:=.ref (c 8)) (by rfl) (A0.m8) rfl) aB))) (aA (aO (r:=fQ K) bG (by rfl) G.isi boot_isi (aA (pv 0) (aA (cO (v:=.ref (c 9)) (by rfl) (A0.m9) rfl) aB))) aB))))))
   (aD (aN (i:=1) eJ.nd rfl (Or.inl rfl) (aK cE (pv 1) (bU (aA (aO (r:=fQ K) bG (by rfl) G.isi boot_isi (aA (pv 0) (aA (cO (v:=.ref (c 10)) (by rfl) (A0.m10) rfl) aB))) (aA (aO (r:=fQ K) bG (by rfl) G.isi boot_isi (aA (pv 0) (aA (cO (v:=.ref (c 11)) (by rfl) (A0.m11) rfl) aB))) (aA (aO (r:=fQ K) bG (by rfl) G.isi boot_isi (aA (pv 0) (aA (cO (v:=.ref (c 12)) (by rfl) (A0.m12) rfl) aB))) (aA (aO (r:=fQ K) bG (by rfl) G.isi boot_isi (aA (pv 0) (aA (cO (v:=.ref (c 13)) (by rfl) (A0.m13) rfl) aB))) aB)))))))
   (aD (aN (i:=1) eJ.nd rfl (Or.inl rfl) (aK cE (pv 1) (bU (aA (aO (r:=fQ K) bG (by rfl) G.isi boot_isi (aA (pv 0) (aA (cO (v:=.ref (c 14)) (by rfl) (A0.m14) rfl) aB))) (aA (aO (r:=fQ K) bG (by rfl) G.isi boot_isi (aA (pv 0) (aA (cO (v:=.ref (c 15)) (by rfl) (A0.m15) rfl) aB))) (aA (aO (r:=fQ K) bG (by rfl) G.isi boot_isi (aA (pv 0) (aA (cO (v:=.ref (c 16)) (by rfl) (A0.m16) rfl) aB))) aB))))))
   (aD (aN (i:=1) eJ.nd rfl (Or.inl rfl) (aK cE (pv 1) (bU (aA (aO (r:=fQ K) bG (by rfl) G.isi boot_isi (aA (pv 0) (aA (cO (v:=.ref (c 17)) (by rfl) (A0.m17) rfl) aB))) (aA (aO (r:=fQ K) bG (by rfl) G.isi boot_isi (aA (pv 0) (aA (cO (v:=.ref (c 18)) (by rfl) (A0.m18) rfl) aB))) (aA (aO (r:=fQ K) bG (by rfl) G.isi boot_isi (aA (pv 0) (aA (cO (v:=.ref (c 19)) (by rfl) (A0.m19) rfl) aB))) aB))))))
   (aD (aN (i:=2) eJ.nd rfl (Or.inl rfl) (jL (pcc aF (pcc aF (pcc aF (pcc aF (pcc aF (pcc aF (pcc aF (pcc aF (pcc aF (pcc aF (pcc aF pcn)))))))))))))
   (aD (aN (i:=2) eJ.nd rfl (Or.inl rfl) (aK cE (pv 2) (jL (pcc aF (pcc aF (pcc aF (pcc aF (pcc aF (pcc aF (pcc aF (pcc aF (pcc aF pcn))))))))))))
   (aD (vW (ix:=3) eJ.nd rfl (Or.inl rfl) (NB:=["_law_word_here","_law_one"]) (n:=2) (js:=[]) (g:=gTupH K ea C 2 (sX (dS 0) (sX (dS 1) gNil))) (cl:=[]) rfl (by decide +kernel) (by decide +kernel) rfl
     (dZ.of rfl bE (all_cons (fun z=>nomatch z) (all_cons (fun z=>nomatch z) (all_cons (fun z=>nomatch z) bE))) rfl (fun k j h=>absurd h (by simp)) bE)
     (pi_zipH (h:=ea) (C:=C) hr.hd rfl A0.zip (aA (pv 2) (aA (pv 1) aB))) (fun C' s H fp pn=>pg_tupH (h:=ea) (C:=C) (n:=2) hr.hd (dR (cC (i:=0) ndWO rfl (Or.inl rfl) (.inr rfl)) (dR (cC (i:=1) ndWO rfl (Or.inl rfl) (.inr rfl)) jK))) (fun C' s H fp pn=>pts_one (dX (pv 1))) (fun C' s H fp pn=>pv 0))
   (aI (aT (aZ aR (aK cE (pv 3) (bU (aA aF aB))) (aK jC (cF gO (by rfl) G.int gU (aA (pe_or (dN kK (aO bJ (by rfl) G.len PySem.boot_len (aA (pv 3) aB)) aC (bF _)) (jZ (yZ (aO (r:=fQ K) bG (by rfl) G.isi boot_isi (aA (pv 0) (aA (gS (v:=.ty "ValueError") (by rfl) A0.mV boot_ve rfl) aB)))))) aB)) (aO bJ (by rfl) G.len PySem.boot_len (aA (pv 3) aB))) (fun _ _=>rfl))))))))))))),?_⟩
  have sz:∀{n:Nat},n<=1000->n<=sizeLine:=fun h=>Nat.le_of_lt (xB h)
  refine⟨_,rfl,_,_,_,_,rfl,.ref (c 0),.inr ⟨ea,C,rfl,he,N.e,N.n 0 (by decide)⟩,_,rfl,_,_,_,_,rfl,.ref (c 1),.inr ⟨ea,C,rfl,he,N.e,N.n 1 (by decide)⟩,_,rfl,_,_,_,_,rfl,.ref (c 2),.inr ⟨ea,C,rfl,he,N.e,N.n 2 (by decide)⟩,_,rfl,_,_,_,_,rfl,.ref (c 3),.inr ⟨ea,C,rfl,he,N.e,N.n 3 (by decide)⟩,sz (by show 4<=1000;decide),fun l0 n0=>?_⟩
  obtain⟨H0,hh,s0,e0⟩:=alo n0 (.lst (bsJ j 0 4))
  have hh:upd H l0 (.lst [.bl (decide (0=j)),.bl (decide (1=j)),.bl (decide (2=j)),.bl (decide (3=j))])=H0:=hh
  rw [hh]
  have S0:=s0
  have he:=s0 _ _ he
  refine⟨_,rfl,_,rfl,_,_,_,_,rfl,.ref (c 4),.inr ⟨ea,C,rfl,he,N.e,N.n 4 (by decide)⟩,_,rfl,_,_,_,_,rfl,.ref (c 5),.inr ⟨ea,C,rfl,he,N.e,N.n 5 (by decide)⟩,_,rfl,_,_,_,_,rfl,.ref (c 6),.inr ⟨ea,C,rfl,he,N.e,N.n 6 (by decide)⟩,sz (by show 3<=1000;decide),fun m1 p1=>?_⟩
  obtain⟨G1,hh,q1,f1⟩:=alo p1 (.lst (bsJ j 4 3))
  have hh:upd H0 m1 (.lst [.bl (decide (4=j)),.bl (decide (5=j)),.bl (decide (6=j))])=G1:=hh
  rw [hh]
  refine⟨l0,m1,_,_,rfl,rfl,q1 _ _ e0,f1,by rw [eO,eO];exact sz (by decide),fun l1 n1=>?_⟩
  rw [jT]
  obtain⟨H1,hh,s1,e1⟩:=alo n1 (.lst (bsJ j 0 7))
  rw [hh]
  have S1:=S0.trans (q1.trans s1)
  have he:=s1 _ _ (q1 _ _ he)
  refine⟨_,rfl,_,rfl,_,_,_,_,rfl,.ref (c 7),.inr ⟨ea,C,rfl,he,N.e,N.n 7 (by decide)⟩,_,rfl,_,_,_,_,rfl,.ref (c 8),.inr ⟨ea,C,rfl,he,N.e,N.n 8 (by decide)⟩,_,rfl,_,_,_,_,rfl,.ref (c 9),.inr ⟨ea,C,rfl,he,N.e,N.n 9 (by decide)⟩,sz (by show 3<=1000;decide),fun m2 p2=>?_⟩
  obtain⟨G2,hh,q2,f2⟩:=alo p2 (.lst (bsJ j 7 3))
  have hh:upd H1 m2 (.lst [.bl (decide (7=j)),.bl (decide (8=j)),.bl (decide (9=j))])=G2:=hh
  rw [hh]
  refine⟨l1,m2,_,_,rfl,rfl,q2 _ _ e1,f2,by rw [eO,eO];exact sz (by decide),fun l2 n2=>?_⟩
  rw [jT]
  obtain⟨H2,hh,s2,e2⟩:=alo n2 (.lst (bsJ j 0 10))
  rw [hh]
  have S2:=S1.trans (q2.trans s2)
  have he:=s2 _ _ (q2 _ _ he)
  refine⟨_,rfl,_,rfl,_,_,_,_,rfl,.ref (c 10),.inr ⟨ea,C,rfl,he,N.e,N.n 10 (by decide)⟩,_,rfl,_,_,_,_,rfl,.ref (c 11),.inr ⟨ea,C,rfl,he,N.e,N.n 11 (by decide)⟩,_,rfl,_,_,_,_,rfl,.ref (c 12),.inr ⟨ea,C,rfl,he,N.e,N.n 12 (by decide)⟩,_,rfl,_,_,_,_,rfl,.ref (c 13),.inr ⟨ea,C,rfl,he,N.e,N.n 13 (by decide)⟩,sz (by show 4<=1000;decide),fun m3 p3=>?_⟩
  obtain⟨G3,hh,q3,f3⟩:=alo p3 (.lst (bsJ j 10 4))
  have hh:upd H2 m3 (.lst [.bl (decide (10=j)),.bl (decide (11=j)),.bl (decide (12=j)),.bl (decide (13=j))])=G3:=hh
  rw [hh]
  refine⟨l2,m3,_,_,rfl,rfl,q3 _ _ e2,f3,by rw [eO,eO];exact sz (by decide),fun l3 n3=>?_⟩
  rw [jT]
  obtain⟨H3,hh,s3,e3⟩:=alo n3 (.lst (bsJ j 0 14))
  rw [hh]
  have S3:=S2.trans (q3.trans s3)
  have he:=s3 _ _ (q3 _ _ he)
  refine⟨_,rfl,_,rfl,_,_,_,_,rfl,.ref (c 14),.inr ⟨ea,C,rfl,he,N.e,N.n 14 (by decide)⟩,_,rfl,_,_,_,_,rfl,.ref (c 15),.inr ⟨ea,C,rfl,he,N.e,N.n 15 (by decide)⟩,_,rfl,_,_,_,_,rfl,.ref (c 16),.inr ⟨ea,C,rfl,he,N.e,N.n 16 (by decide)⟩,sz (by show 3<=1000;decide),fun m4 p4=>?_⟩
  obtain⟨G4,hh,q4,f4⟩:=alo p4 (.lst (bsJ j 14 3))
  have hh:upd H3 m4 (.lst [.bl (decide (14=j)),.bl (decide (15=j)),.bl (decide (16=j))])=G4:=hh
  rw [hh]
  refine⟨l3,m4,_,_,rfl,rfl,q4 _ _ e3,f4,by rw [eO,eO];exact sz (by decide),fun l4 n4=>?_⟩
  rw [jT]
  obtain⟨H4,hh,s4,e4⟩:=alo n4 (.lst (bsJ j 0 17))
  rw [hh]
  have S4:=S3.trans (q4.trans s4)
  have he:=s4 _ _ (q4 _ _ he)
  refine⟨_,rfl,_,rfl,_,_,_,_,rfl,.ref (c 17),.inr ⟨ea,C,rfl,he,N.e,N.n 17 (by decide)⟩,_,rfl,_,_,_,_,rfl,.ref (c 18),.inr ⟨ea,C,rfl,he,N.e,N.n 18 (by decide)⟩,_,rfl,_,_,_,_,rfl,.ref (c 19),.inr ⟨ea,C,rfl,he,N.e,N.n 19 (by decide)⟩,sz (by show 3<=1000;decide),fun m5 p5=>?_⟩
  obtain⟨G5,hh,q5,f5⟩:=alo p5 (.lst (bsJ j 17 3))
  have hh:upd H4 m5 (.lst [.bl (decide (17=j)),.bl (decide (18=j)),.bl (decide (19=j))])=G5:=hh
  rw [hh]
  refine⟨l4,m5,_,_,rfl,rfl,q5 _ _ e4,f5,by rw [eO,eO];exact sz (by decide),fun l5 n5=>?_⟩
  rw [jT]
  obtain⟨H5,hh,s5,e5⟩:=alo n5 (.lst (bsJ j 0 20))
  rw [hh]
  have S5:=S4.trans (q5.trans s5)
  have he:=s5 _ _ (q5 _ _ he)
  refine⟨sz (by show 11<=1000;decide),fun l6 n6=>?_⟩
  obtain⟨H6,hh,s6,e6⟩:=alo n6 (.lst (tP.map V.str))
  have hh:upd H5 l6 (.lst [.str "bound",.str "cut",.str "join",.str "line",.str "moment",.str "place",.str "plan",.str "telling",.str "work",.str "worker",.str "down"])=H6:=hh
  rw [hh]
  refine⟨_,rfl,sz (by show 9<=1000;decide),fun l7 n7=>?_⟩
  obtain⟨H7,hh,s7,e7⟩:=alo n7 (.lst (tO.map V.str))
  have hh:upd H6 l7 (.lst [.str "fallen",.str "lost",.str "book",.str "lending",.str "row",.str "piece",.str "text",.str "otherwise",.str "twice"])=H7:=hh
  rw [hh]
  refine⟨l6,l7,_,_,rfl,rfl,s7 _ _ e6,e7,sz (by show 20<=1000;decide),fun l8 n8=>?_⟩
  obtain⟨H8,hh,s8,e8⟩:=alo n8 (.lst (fJ.map V.str))
  have hh:upd H7 l8 (.lst (tP.map V.str++tO.map V.str))=H8:=hh
  rw [hh]
  have e5:=s8 _ _ (s7 _ _ (s6 _ _ e5))
  have he:=s8 _ _ (s7 _ _ (s6 _ _ he))
  have S8:=S5.trans (s6.trans (s7.trans s8))
  refine⟨_,rfl,_,rfl,l8,l5,_,_,rfl,e8,e5,fun acc nacc=>?_⟩
  refine⟨fun i m ys G=>m=20-i/\i<=20/\ys=(nC j i).map V.str/\aV H8 G/\G acc=some (.lst ys),⟨_,rfl,Nat.zero_le _,rfl,aG nacc,aE⟩,?_⟩
  rintro i m ys G ⟨rfl,hi,rfl,sg,hA⟩
  refine⟨hA,?_⟩
  by_cases hlt:i<20
  ·obtain⟨wd,hw⟩:∃wd,fJ[i]?=some wd:=⟨_,List.getElem?_eq_getElem hlt⟩
   have hwl:(fJ.map V.str)[i]?=some (.str wd):=by rw [List.getElem?_map,hw];rfl
   have hbl:(bsJ j 0 20)[i]?=some (.bl (decide (i=j))):=bsJ_at hlt
   refine .inr ⟨⟨_,_,_,_,sg _ _ e8,sg _ _ e5,hwl,hbl⟩,?_⟩
   rintro x G' ⟨T,x',y',nT,rfl,rfl,h1,h2⟩
   have h1:=h1 _ (sg _ _ e8)
   have h2:=h2 _ (sg _ _ e5)
   rw [hwl] at h1
   rw [hbl] at h2
   cases h1
   cases h2
   obtain⟨G2,hh,s9,e9⟩:=alo nT (.tup [.str wd,.bl (decide (i=j))])
   rw [hh]
   refine⟨s9 _ _ (sg _ _ he),T,_,rfl,SqT.of e9,rfl,_,_,rfl,_,_,rfl,rfl,rfl,?_⟩
   refine⟨_,rfl,_,rfl,?_⟩
   have fl:(nC j i).length<=20:=AaL j i
   refine cI (fun hc=>?_) (fun hc=>?_)
   ·refine⟨_,rfl,s9 _ _ hA,by rw [List.length_map];have:=sizeLine_eq;omega,20-(i+1),by omega,rfl,hlt,?_,fun b o e=>?_,aE⟩
    ·rw [AaK hw (of_decide_eq_true hc),List.map_append]
     rfl
    ·rw [aP (aL e nacc)]
     exact s9 _ _ (sg _ _ e)
   ·refine⟨20-(i+1),by omega,rfl,hlt,?_,sg.trans s9,s9 _ _ hA⟩
    rw [fndJ_no hw (of_decide_eq_false (Bool.eq_false_iff.mpr hc))]
  have ei:i=20:=by omega
  subst ei
  refine .inl ⟨⟨sg _ _ he,_,sg _ _ e8,Nat.le_refl _⟩,?_⟩
  rw [AaM hj] at hA
  have hA:G acc=some (.lst [.str (fJ.getD j "")]):=hA
  have he:=sg _ _ he
  have S9:=S8.trans sg
  refine⟨_,rfl,sz (by show 1<=1000;decide),fun la na=>?_⟩
  obtain⟨G1,hh,t1,g1⟩:=alo na (.lst [.str "other"])
  rw [hh]
  refine⟨acc,la,_,_,rfl,rfl,t1 _ _ hA,g1,sz (by show 2<=1000;decide),fun lb nb=>?_⟩
  obtain⟨G2,hh,t2,g2⟩:=alo nb (.lst [.str (fJ.getD j ""),.str "other"])
  have hh:upd G1 lb (.lst ([.str (fJ.getD j "")]++[.str "other"]))=G2:=hh
  rw [hh]
  have hA2:=t2 _ _ (t1 _ _ hA)
  have he2:=t2 _ _ (t1 _ _ he)
  refine⟨_,rfl,acc,_,rfl,.inl (SqL.of hA2),rfl,_,rfl,eM ?_⟩
  refine⟨_,rfl,_,_,_,_,rfl,.ty "ValueError",.inr ⟨ea,C,rfl,he2,N.e,N.v⟩,_,rfl,.inr ⟨_,rfl,?_⟩⟩
  refine⟨_,rfl,acc,_,rfl,.inl (SqL.of hA2),_,_,rfl,rfl,.inl ⟨by decide,by decide⟩,lb,_,_,_,rfl,rfl,SqL.of g2,aJ (j:=0) rfl,?_⟩
  exact t _ (S9.trans (t1.trans t2))
end
end Ls
namespace Tm
open PySem PySem.StrLaws PyProof.Rows PySem.W
def dig (c:Nat):Bool:=decide (48<=c) && decide (c<=57)
def figs (l:List Nat):List Nat:=if l.head?=some 45 then l.tail else l
def isN (l:List Nat):Bool:=decide (1<=(figs l).length) && decide ((figs l).length<=18) && (figs l).all dig && (!decide ((figs l).head?=some 48) || decide (l=[48]))
theorem AaS {cs:List Nat} (h:∀c ∈ cs,dig c=true) (h1:1<=cs.length) (hz:cs.head?≠some 48\/cs=[48]):iR (NumText.digitsVal cs)=cs:=by
 have ha:NumText.AllDigits cs:=fun c hc=>by
  have:=h c hc
  unfold dig at this
  rw [Bool.and_eq_true,decide_eq_true_eq,decide_eq_true_eq] at this
  exact this
 have t:=NumText.toDigits_digitsVal (cs.length-1) cs (by omega) ha (by
  cases cs with
  | nil=>exact absurd h1 (by decide)
  | cons c r=>
   rcases hz with hz|hz
   ·right
    have:=ha c List.mem_cons_self
    refine⟨c,r,rfl,?_⟩
    have n:c≠48:=fun e=>hz (by rw [e];rfl)
    have:=this.1
    omega
   ·left
    rw [hz]
    rfl)
 unfold iR
 rw [t,List.map_map]
 conv=>rhs;rw [<- List.map_id cs]
 refine List.map_congr_left fun c hc=>?_
 have:=ha c hc
 show (Char.ofNat c).toNat=c
 have hv:c.isValidChar:=.inl (by have:=this.2;omega)
 unfold Char.ofNat
 rw [dif_pos hv]
 rfl
theorem xS {l:List Nat} (h:isN l=true):1<=(figs l).length/\(figs l).length<=18/\(∀c ∈ figs l,dig c=true)/\((figs l).head?≠some 48\/l=[48]):=by
 unfold isN at h
 simp only [Bool.and_eq_true,Bool.or_eq_true,Bool.not_eq_true',decide_eq_true_eq,decide_eq_false_iff_not,List.all_eq_true] at h
 exact⟨h.1.1.1,h.1.1.2,h.1.2,h.2⟩
theorem wK {x:Str} (h:isN (sg x)=true):∃i,Bs i/\x=numT i:=by
 obtain⟨h1,h2,h3,h4⟩:=xS h
 have hz:(figs (sg x)).head?≠some 48\/figs (sg x)=[48]:=by
  rcases h4 with z|z
  ·exact .inl z
  ·right
   rw [z]
   rfl
 have e:=AaS h3 h1 hz
 generalize hm:NumText.digitsVal (figs (sg x))=m at e
 have lt:m<10 ^ 18:=by
  refine(Nat.length_toDigits_le_iff (b:=10) (by decide) (by decide)).mp ?_
  have:(iR m).length=(Nat.toDigits 10 m).length:=List.length_map ..
  rw [<- this,e]
  exact h2
 have p18:(10:Nat) ^ 18=1000000000000000000:=by decide
 by_cases c:(sg x).head?=some 45
 ·have ef:figs (sg x)=(sg x).tail:=if_pos c
  have nz:m≠0:=fun z=>by
   rw [z,xY] at e
   rcases h4 with w|w
   ·exact w (by rw [<- e];rfl)
   ·rw [w] at c
    cases c
  refine⟨-(m:Int),⟨by omega,by omega⟩,sg_ext ?_⟩
  rw [qK (by omega),show (0 - -(m:Int)).toNat=m by omega,e,ef]
  cases hs:sg x with
  | nil=>rw [hs] at c;cases c
  | cons a r=>
   rw [hs] at c
   cases c
   rfl
 ·have ef:figs (sg x)=sg x:=if_neg c
  refine⟨(m:Int),⟨by omega,by omega⟩,sg_ext ?_⟩
  rw [lI (by omega),show (m:Int).toNat=m by omega,e,ef]
noncomputable def num? (x:Str):Option Int:=if h:isN (sg x)=true then some (wK h).choose else none
theorem num_some {x:Str} (h:isN (sg x)=true):∃i,num? x=some i/\Bs i/\x=numT i:=⟨_,dif_pos h,(wK h).choose_spec⟩
def okS (B:Nat) (x:Str):Prop:=x.length<=B/\∀c ∈ sg x,33<=c/\c<=126
def okR (B:Nat) (x:Str):Prop:=x.length<=B/\∀c ∈ sg x,32<=c/\c<=126
theorem okS.ascii {B:Nat} {x:Str} (h:okS B x):x.cps.all (·<128)=true:=by
 rw [<- Array.all_toList,List.all_eq_true]
 intro c hc
 have:=h.2 c hc
 exact decide_eq_true (by omega)
theorem starts45 (x:Str):Txt.startswith x ⟨#[45]⟩=decide ((sg x).head?=some 45):=by
 have k:=subAt_one x 45 0
 have e:(sg x).head?=(sg x)[0]?:=by cases sg x <;> rfl
 rw [e]
 by_cases z:(sg x)[0]?=some 45
 ·rw [decide_eq_true z]
  have h1:=k.mpr z
  unfold Txt.startswith
  rw [decide_eq_true h1.1,h1.2]
  rfl
 ·rw [decide_eq_false z]
  refine Bool.eq_false_iff.mpr fun h=>?_
  unfold Txt.startswith at h
  rw [Bool.and_eq_true,decide_eq_true_eq] at h
  exact z (k.mp h)
theorem slice_from {x:Str} {i:Nat} (h:i<=x.length):sg (Txt.slice x (some (i:Int)) none)=(sg x).drop i:=by
 have s:=sliceText_from (x:=x) (i:=(i:Int)) ⟨by omega,by
  have:x.cps.toList.length=x.length:=sg_len x
  omega⟩
 rw [show Txt.slice x (some (i:Int)) none=_ from s]
 show (((x.cps.toList.drop (i:Int).toNat).take ((x.cps.toList.length:Int)-i).toNat))=_
 rw [show (i:Int).toNat=i by omega]
 refine List.take_of_length_le ?_
 rw [List.length_drop]
 omega
theorem len_app (a b:Str):(a++b).length=a.length+b.length:=by
 rw [<- sg_len,<- sg_len,<- sg_len,sg_app,List.length_append]
theorem sS {s:Str}:∀{ps:List Str} {p:Str},p ∈ ps->(∀d ∈ sg p,d ∈ sg (Str.join s ps))/\p.length<=(Str.join s ps).length
 | [],p,h=>absurd h (by simp)
 | [q],p,h=>by
  cases List.mem_singleton.mp h
  exact⟨fun d hd=>hd,Nat.le_refl _⟩
 | q::q2::r,p,h=>by
  rw [join_two,len_app,len_app,sg_app,sg_app]
  rcases List.mem_cons.mp h with rfl|h
  ·exact⟨fun d hd=>List.mem_append_left _ (List.mem_append_left _ hd),by omega⟩
  ·have:=sS (s:=s) h
   exact⟨fun d hd=>List.mem_append_right _ (this.1 d hd),by omega⟩
theorem sU {c:Nat}:∀{ps:List Str},ps.length<=(Str.join ⟨#[c]⟩ ps).length+1
 | []=>Nat.zero_le _
 | [q]=>by show 1<=_;omega
 | q::q2::r=>by
  have:=sU (c:=c) (ps:=q2::r)
  rw [join_two,len_app,len_app]
  have:(⟨#[c]⟩:Str).length=1:=rfl
  rw [List.length_cons]
  omega
theorem join_sg {c d:Nat}:∀{ps:List Str},d ∈ sg (Str.join ⟨#[c]⟩ ps)->d=c\/∃p ∈ ps,d ∈ sg p
 | [],h=>by cases h
 | [q],h=>.inr ⟨q,List.mem_cons_self,h⟩
 | q::q2::r,h=>by
  rw [join_two,sg_app,sg_app,pV] at h
  rcases List.mem_append.mp h with h|h
  ·rcases List.mem_append.mp h with h|h
   ·exact .inr ⟨q,List.mem_cons_self,h⟩
   ·exact .inl (by simpa using h)
  ·rcases join_sg h with z|⟨p,h1,h2⟩
   ·exact .inl z
   ·exact .inr ⟨p,List.mem_cons_of_mem _ h1,h2⟩
theorem join_le {c B:Nat}:∀{ps:List Str},(∀p ∈ ps,p.length<=B)->(Str.join ⟨#[c]⟩ ps).length<=ps.length * (B+1)
 | [],_=>Nat.zero_le _
 | [q],h=>by
  have:=h q List.mem_cons_self
  show q.length<=1 * (B+1)
  omega
 | q::q2::r,h=>by
  have h1:=h q List.mem_cons_self
  have h2:=join_le (c:=c) (ps:=q2::r) fun p hp=>h p (List.mem_cons_of_mem _ hp)
  rw [join_two,len_app,len_app]
  have:(⟨#[c]⟩:Str).length=1:=rfl
  rw [List.length_cons,Nat.succ_mul]
  omega
def wds (x:Str):List Str:=Txt.split x ⟨#[32]⟩
theorem wds_ne (x:Str):wds x≠[]:=split_ne _ _
theorem wds_join (x:Str):Str.join ⟨#[32]⟩ (wds x)=x:=join_split _ _
theorem wds_cnt (x:Str):(wds x).length<=x.length+1:=by
 have:=sU (c:=32) (ps:=wds x)
 rw [wds_join] at this
 exact this
theorem wds_ok {B:Nat} {x:Str} (h:okR B x):∀w ∈ wds x,okS B w:=fun w hw=>by
 have k:=sS (s:=⟨#[32]⟩) hw
 rw [wds_join] at k
 refine⟨Nat.le_trans k.2 h.1,fun c hc=>?_⟩
 have r:=h.2 c (k.1 c hc)
 have n:c≠32:=fun z=>split_free x 32 w hw (by rw [<- z];exact hc)
 omega
end Tm
namespace Lt
open PySem L2 PySem.W
theorem jE {b:Bool} {A B:Prop} (h:b=true) (x:A):if b=true then A else B:=by rw [if_pos h];exact x
theorem fY {b:Bool} {A B:Prop} (h:b=false) (x:B):if b=true then A else B:=by rw [if_neg (by rw [h];simp)];exact x
theorem wI {x y:Str} {a c:Nat} (hx:x=⟨#[a]⟩) (hy:y=⟨#[c]⟩):(!decide (y.cps.toList<x.cps.toList))=decide (a<=c):=by
 subst hx hy
 show (!decide ([c]<[a]))=decide (a<=c)
 by_cases h:a<=c
 ·have:¬ ([c]<[a]):=by
   intro z
   cases z with
   | rel h=>omega
   | cons h=>cases h
  rw [decide_eq_false this,decide_eq_true h]
  rfl
 ·have:[c]<[a]:=.rel (by omega)
  rw [decide_eq_true this,decide_eq_false h]
  rfl
theorem c48:Str.ofString "0"=⟨#[48]⟩:=by decide +kernel
theorem c57:Str.ofString "9"=⟨#[57]⟩:=by decide +kernel
theorem c33:Str.ofString "!"=⟨#[33]⟩:=by decide +kernel
theorem c126:Str.ofString "~"=⟨#[126]⟩:=by decide +kernel
theorem c45:Str.ofString "-"=⟨#[45]⟩:=by decide +kernel
theorem c32:Str.ofString " "=⟨#[32]⟩:=by decide +kernel
theorem c10:Str.ofString "\n"=⟨#[10]⟩:=by decide +kernel
structure Er (K:PySem.W.Frag) (mg:Str->Option Value) (x:Str) (C:Addr):Prop where
 mB:mg x=some (.ref C)
 ex:ExcIs K C
def pS:Sp:=fun vs H Q _=>∃x:Str,vs=[.str x]/\Tm.okS 100000 x/\∀H',aV H H'->Q (.bl (Tm.isN (Tm.sg x))) H'
theorem ndSg:(["sign"]:List Str).Nodup:=by decide +kernel
theorem ndWo:(["word"]:List Str).Nodup:=by decide +kernel
def isnumRd (K:Frag):TS:=tSeq (tIfS (tOr (tNot (vJ (pJ (rI0 fun i j=>V.bl (decide (i<=j))) (rI0 fun i j=>V.bl (decide (i<=j))) (tC (V.int 1)) (tCB (fun xs H Q=>∃z,xs=[V.str z]/\z.length<=sizeLine/\Q (V.int ↑z.length) H) (gG (hJ 1) kT)) (tC (V.int 18)))))
 (tNot (tB (tCB (fun xs H Q=>∃(a:Addr) (bs:List Bool),xs=[.ref a]/\SqL K H a (bs.map V.bl)/\Q (.bl (bs.all id)) H) (gG (tComp 1 (iStr (hJ 1)) (dS 0) tYes (pJ (fun x y H Q=>∃i j,x=.str i/\y=.str j/\Q (.bl (!decide (j.cps.toList<i.cps.toList))) H) (fun x y H Q=>∃i j,x=.str i/\y=.str j/\Q (.bl (!decide (j.cps.toList<i.cps.toList))) H) (tC (.str "0")) (hJ 0) (tC (.str "9")))) kT))))) (tRet (tC (V.bl false))) tNext)
 (tRet (tOrV (tOp rNe (tOp rIxS (hJ 1) (tC (.int 0))) (tC (.str "0"))) (tOp rEq (hJ 0) (tC (.str "0")))))
theorem sV {K:Frag} {mg:Str->Option Value} {x y:Str} {H:Hp} {Q:VK} (G:Gb mg) (hx:Tm.okS 100000 x) (hy:Tm.sg y=Tm.figs (Tm.sg x)) (q:∀H',aV H H'->Q (.bl (Tm.isN (Tm.sg x))) H'):
  isnumRd K { nx:=fun _ H'=>Q .non H',rt:=Q } [some (.str x),some (.str y)] H:=by
 have sl:sizeLine=16777216:=sizeLine_eq
 have ly:y.length=(Tm.figs (Tm.sg x)).length:=by rw [<- hy,Tm.sg_len]
 have l0:(Tm.figs (Tm.sg x)).length<=x.length:=by
  rw [<- Tm.sg_len]
  unfold Tm.figs
  split
  ·rw [List.length_tail];omega
  ·exact Nat.le_refl _
 have oy:∀c ∈ Tm.sg y,33<=c/\c<=126:=fun c hc=>by
  rw [hy] at hc
  refine hx.2 c ?_
  unfold Tm.figs at hc
  split at hc
  ·exact List.mem_of_mem_tail hc
  ·exact hc
 have xl:=hx.1
 have yS:Tm.okS 100000 y:=⟨by omega,oy⟩
 have eI:Tm.isN (Tm.sg x)=(decide (1<=y.length) && decide (y.length<=18) && (Tm.sg y).all Tm.dig && (!decide ((Tm.sg y).head?=some 48) || decide (Tm.sg x=[48]))):=by
  unfold Tm.isN
  rw [hy,ly]
 rw [eI] at q
 refine⟨_,rfl,_,rfl,by omega,_,_,rfl,rfl,_,rfl,?_⟩
 refine cI (fun h1=>?_) (fun h1=>?_)
 rotate_left
 ·refine⟨_,rfl,cZ (cZ ?_)⟩
  have e:decide (1<=y.length)=false:=decide_eq_false fun z=>h1 (decide_eq_true (by omega))
  rw [e] at q
  exact q _ (aV.refl _)
 refine⟨_,_,rfl,rfl,_,rfl,?_⟩
 have h1:1<=y.length:=by have:=of_decide_eq_true h1;omega
 refine cI (fun h2=>?_) (fun h2=>?_)
 ·have h2:¬ (y.length<=18):=fun z=>by
   rw [decide_eq_true (by omega)] at h2
   cases h2
  refine cZ ?_
  rw [decide_eq_false h2] at q
  rw [Bool.and_false,Bool.false_and,Bool.false_and] at q
  exact q _ (aV.refl _)
 have h2:y.length<=18:=by
  by_cases z:y.length<=18
  ·exact z
  ·rw [decide_eq_false (by omega)] at h2
   exact absurd rfl h2
 rw [decide_eq_true h1,decide_eq_true h2,Bool.true_and,Bool.true_and] at q
 refine⟨_,rfl,_,rfl,yS.ascii,fun acc hacc=>?_⟩
 refine⟨fun j m' ys H'=>m'=y.length-j/\j<=y.length/\ys=(((Tm.sg y).take j).map Tm.dig).map V.bl/\aV H H'/\H' acc=some (.lst ys),⟨_,rfl,Nat.zero_le _,rfl,aG hacc,aE⟩,?_⟩
 rintro j m' ys H' ⟨rfl,hj,rfl,sm,hA⟩
 refine⟨hA,?_⟩
 by_cases hlt:j<y.length
 ·refine .inr ⟨hlt,?_⟩
  rintro v H'' ⟨rfl,c,hc,rfl⟩
  have hc':(Tm.sg y)[j]?=some c:=by rw [<- hc];exact Array.getElem?_toList
  have nx:∀b:Bool,b=Tm.dig c->H'' acc=some (.lst ((((Tm.sg y).take j).map Tm.dig).map V.bl))/\((((Tm.sg y).take j).map Tm.dig).map V.bl).length<sizeLine/\∃m',m'<y.length-j/\(m'=y.length-(j+1)/\j+1<=y.length/\(((Tm.sg y).take j).map Tm.dig).map V.bl++[.bl b]=(((Tm.sg y).take (j+1)).map Tm.dig).map V.bl /\
    aV H (upd H'' acc (.lst ((((Tm.sg y).take j).map Tm.dig).map V.bl++[.bl b])))/\(upd H'' acc (.lst ((((Tm.sg y).take j).map Tm.dig).map V.bl++[.bl b]))) acc=some (.lst ((((Tm.sg y).take j).map Tm.dig).map V.bl++[.bl b]))):=fun b hb=>by
   subst hb
   refine⟨hA,?_,_,?_,rfl,hlt,?_,fun b o z=>?_,aE⟩
   ·rw [List.length_map,List.length_map,List.length_take]
    omega
   ·omega
   ·rw [List.take_add_one,hc']
    simp
   ·rw [aP (aL z hacc)]
    exact sm _ _ z
  refine dC ?_
  refine dH ?_
  refine cZ ?_
  refine⟨_,rfl,_,_,rfl,rfl,_,rfl,?_⟩
  rw [wI c48 rfl]
  refine cI (fun z=>?_) (fun z=>?_)
  ·refine⟨_,_,rfl,rfl,nx _ ?_⟩
   rw [wI rfl c57]
   unfold Tm.dig
   rw [z,Bool.true_and]
  ·refine nx _ ?_
   unfold Tm.dig
   rw [Bool.eq_false_iff.mpr z]
   rfl
 ·refine .inl ⟨by show _<=j;omega,?_⟩
  have et:(Tm.sg y).take j=Tm.sg y:=List.take_of_length_le (by rw [Tm.sg_len];omega)
  rw [et] at hA
  refine⟨acc,_,rfl,SqL.of hA,_,rfl,?_⟩
  have ea:((Tm.sg y).map Tm.dig).all id=(Tm.sg y).all Tm.dig:=by rw [List.all_map];rfl
  rw [ea]
  cases hd:(Tm.sg y).all Tm.dig with
  | false=>
   rw [hd,Bool.false_and] at q
   exact cZ (q _ sm)
  | true=>
   rw [hd,Bool.true_and] at q
   refine eM ?_
   obtain⟨c,r,hcr⟩:∃c r,Tm.sg y=c::r:=by
    cases z:Tm.sg y with
    | nil=>rw [<- Tm.sg_len,z] at h1;exact absurd h1 (by decide)
    | cons c r=>exact⟨c,r,rfl⟩
   refine⟨_,rfl,_,_,c,rfl,rfl,by omega,aJ (j:=0) (by rw [show y.cps.toList=Tm.sg y from rfl,hcr];rfl),rfl,_,rfl,?_⟩
   rw [hcr] at q
   rw [c48]
   by_cases e:c=48
   ·refine fY (by rw [e];simp) ⟨_,rfl,rfl,?_⟩
    subst e
    have eq:decide (V.str x=V.str ⟨#[48]⟩)=decide (Tm.sg x=[48]):=by
     refine decide_eq_decide.mpr ⟨fun z=>by rw [V.str.inj z];rfl,fun z=>?_⟩
     rw [Tm.sg_ext (a:=x) (b:=⟨#[48]⟩) z]
    rw [eq]
    simpa using q _ sm
   ·refine jE (by simp [e]) ?_
    have:=q _ sm
    simpa [e] using this
section
variable {P:Program} {w:World} {K:PySem.W.Frag} {mg:Str->Option Value} {base:Heap}
theorem vR:bO ["word","figures"] ["word"] (aM uP):=⟨rfl,rfl,rfl,by decide +kernel,rfl,by decide +kernel,by decide +kernel⟩
theorem zO {f:Addr} {fd:FuncData} (F:Fun K "is_number" "is_number" uP f fd) (G:Gb mg):aY P w K mg base CX0 1 f fd ["word"] pS:=by
 refine F.ok vR (fun vs H Q E h=>?_) (fun cdv A outer s H vs Q E hr h=>?_)
 ·obtain⟨i,rfl,_⟩:=h
  rfl
 ·obtain⟨x,rfl,hx,q⟩:=h
  refine⟨_,aD (aN (i:=1) vR.nd rfl (Or.inl rfl) (zA (dX (fU PySem.F.plainAttrs_str PySem.F.slot_str_startswith PySem.F.type_str_startswith xN (pv 0) (aA aF aB))) (aQ lY (pv 0) (aU aC) bI) (pv 0)))
   (aD (cB (PW.pt (gE (dL (rX wB wB aC (aO jS (by rfl) G.len PySem.boot_len (aA (pv 1) aB)) aC)) (eT (dL (dX (aO (tH rfl) (by rfl) G.all Ls.boot_all (aA (lG (NB:=["sign"]) (g:=dS 0) rfl (by decide +kernel) (by decide +kernel) (by decide +kernel) rfl
     (yV (pv 1)) (fun C s H fp pn=>cC (i:=0) ndSg rfl (Or.inl rfl) (.inr rfl)) (fun C s H fp pn=>dF) (fun C s H fp pn=>sH iJ iJ aF (pv 0) aF)) aB))))))) (aI (aT hZ)) aW)
   (aI (aT (pe_or (dN kK (aZ AaF (pv 1) aC (fun _ _=>rfl)) aF (bF _)) (jZ (dN dB (pv 0) aF (bF _))))))),?_⟩
  have sl:sizeLine=16777216:=sizeLine_eq
  have wl:=hx.1
  refine⟨_,rfl,rfl,_,_,rfl,rfl,_,rfl,?_⟩
  rw [c45,Tm.starts45]
  refine cI (fun hc=>?_) (fun hc=>?_)
  ·have hc:=of_decide_eq_true hc
   have l1:1<=x.length:=by
    rw [<- Tm.sg_len]
    cases z:Tm.sg x with
    | nil=>rw [z] at hc;cases hc
    | cons a r=>rw [List.length_cons];omega
   have hy:Tm.sg (Txt.slice x (some 1) none)=Tm.figs (Tm.sg x):=by
    refine(Tm.slice_from (i:=1) l1).trans ?_
    unfold Tm.figs
    rw [if_pos hc]
    cases Tm.sg x <;> rfl
   refine⟨_,rfl,_,rfl,_,rfl,by omega,?_⟩
   exact sV G hx hy q
  ·have hy:Tm.sg x=Tm.figs (Tm.sg x):=by
    unfold Tm.figs
    rw [if_neg fun z=>hc (decide_eq_true z)]
   refine⟨_,rfl,?_⟩
   exact sV G hx hy q
end
end Lt
namespace L2
open PySem PySem.Spec PyProof.Rows
theorem Fun.okE {P:Program} {w:World} {K:PySem.W.Frag} {mg:Str->Option Value} {base:Heap} {x qual:Str} {st:Stmt} {f:Addr} {fd:FuncData} {N ps:List Str} {k:Nat} {sp:Sp} (F:Fun K x qual st f fd) (S:bO N ps (aM st)) (len:∀vs H Q E,sp vs H Q E->vs.length=ps.length)
  (hbody:∀(cdv:Value) (A:Around) (outer:List Env) (s:Shared) (H:Hp) (vs:List V) (Q:VK) (E:XK),eS k (A.deeper (envOfC qual (aM st) s.heap.objs.size f cdv))->sp vs H Q E ->
   ∃t,PSs (iS (CXE P w) P w K mg base N qual (aM st) f cdv A outer s H E) (dA st) t/\t { nx:=fun _ H'=>Q .non H',rt:=Q } (dD N vs) H):aY P w K mg base (CXE P w) (k+1) f fd ps sp:=by
 obtain⟨oc,od,kV,doc,pm,an,cdv,ct,osl,rfl,lk,hcd⟩:=F.ex
 exact fn_of lk hcd S len fun A outer s H vs Q E hr hsp=>hbody cdv A outer s H vs Q E hr hsp
theorem AaJ {K:PySem.W.Frag} {a:Addr} {d:Int} {xs:List V} {g:TG} {tb:TS} {D:jV} {σ:St} {H:Hp} (Pv:Nat->St->Hp->Prop) (h0:Pv 0 σ H) (hl:∀i σ H,i<=xs.length->Pv i σ H->SqT K H a xs)
  (hs:∀i x σ H t,xs[i]?=some x->Pv i σ H->H t=none->g (.ref t) σ (upd H t (.tup [.int (d+i),x])) fun σ2 H2=>tb { D with nx:=Pv (i+1),ct:=Pv (i+1),bk:=D.nx } σ2 H2) (hd:∀ σ H,Pv xs.length σ H->D.nx σ H):
  ∃W:Nat->Nat->St->Hp->Prop,(∃m,W 0 m σ H)/\∀i m σ H,W i m σ H ->
   ((Ite K a d).stop i H/\D.nx σ H)\/((Ite K a d).go i H/\∃N:St->Hp->Prop,(∀ σ' H',N σ' H'->∃m',m'<m/\W (i+1) m' σ' H')/\∀x H',(Ite K a d).yld i H x H'->g x σ H' fun σ2 H2=>tb { D with nx:=N,ct:=N,bk:=D.nx } σ2 H2):=by
 refine⟨fun i m σ H=>m=xs.length-i/\i<=xs.length/\Pv i σ H,⟨xs.length,by simp,Nat.zero_le _,h0⟩,?_⟩
 rintro i m σ H ⟨rfl,hi,p⟩
 have q:=hl i σ H hi p
 by_cases hlt:i<xs.length
 ·refine .inr ⟨⟨xs,xs[i],q,by simp [hlt]⟩,Pv (i+1),fun σ' H' p'=>⟨xs.length-(i+1),by omega,rfl,hlt,p'⟩,fun x H' y=>?_⟩
  obtain⟨t,v,ht,rfl,rfl,y⟩:=y
  exact hs i v σ _ t (y xs q) p ht
 ·have e:i=xs.length:=by omega
  subst e
  exact .inl ⟨⟨xs,q,Nat.le_refl _⟩,hd σ H p⟩
end L2
namespace Lt
open PySem L2 PySem.W
noncomputable def cL (x:Str):Int:=(Tm.num? x).getD 0
def cQ (x:Str):Bool:=Tm.isN (Tm.sg x)
theorem tS {x:Str} (h:cQ x=true):Bd (cL x)/\x=Tm.numT (cL x):=by
 obtain⟨i,h1,h2,h3⟩:=Tm.num_some h
 unfold cL
 rw [h1]
 exact⟨h2,h3⟩
theorem iE {x:Str} (h:cQ x=true):PySem.intText? x=some (cL x):=by
 obtain⟨h1,h2⟩:=tS h
 have:=Tm.num_reads h1
 rw [<- h2] at this
 exact this
theorem mZ {x:Str} (h:cQ x=true):x.length<=30:=by
 obtain⟨h1,h2⟩:=tS h
 rw [h2]
 exact(Tm.num_wd h1).le
noncomputable def cG (ws:List Str):List Int:=ws.map cL
def lV (CB:Addr):Sp:=fun vs H Q E=>∃a b c:Int,vs=[.int a,.int b,.int c]/\(∀H',aV H H'->1<=a->1<=b->1<=c->b<=c->Q .non H')/\(∀H',aV H H'->¬ (1<=a/\1<=b/\1<=c/\b<=c)->E (.ref CB) none H')
def pT (CW:Addr):Sp:=fun vs H Q E=>∃x b,vs=[x]/\Ls.WorkV H x b/\(b=true->Q .non H)/\(b=false->E (.ref CW) none H)
def vM (CN:Addr):Sp:=fun vs H Q E=>∃x:Str,vs=[.str x]/\Tm.okS 100000 x/\(∀H',aV H H'->cQ x=true->Q (.int (cL x)) H')/\(∀H',aV H H'->cQ x=false->E (.ref CN) none H')
def lS (CN:Addr):Sp:=fun vs H Q E=>∃(p:Addr) (ws:List Str),vs=[.ref p]/\H p=some (.lst (ws.map V.str))/\ws.length<=100000/\(∀x ∈ ws,Tm.okS 100000 x) /\
 (∀r H',aV H H'->(∀x ∈ ws,cQ x=true)->H' r=some (.tup ((cG ws).map V.int))->Q (.ref r) H')/\(∀H',aV H H'->¬ (∀x ∈ ws,cQ x=true)->E (.ref CN) none H')
section
variable {P:Program} {w:World} {K:PySem.W.Frag} {mg:Str->Option Value} {base:Heap}
theorem rO:bO ["span","every","least","bound"] ["span","every","least"] (aM qC):=⟨rfl,rfl,rfl,by decide +kernel,rfl,by decide +kernel,by decide +kernel⟩
theorem xJ {f fW CB:Addr} {fd fdW:FuncData} (F:Fun K "check_bounds" "check_bounds" qC f fd) (TX:Er K mg "BadBound" CB) (GW:aY P w K mg base CX0 1 fW fdW ["thing"] Ls.spWhole) (kW:keepIn K (.ref fW)=true) (bW:bV K fdW ["thing"] []) (mW:mg "is_whole"=some (.ref fW)):aY P w K mg base (CXE P w) 2 f fd ["span","every","least"] (lV CB):=by
 refine F.okE rO (fun vs H Q E h=>?_) (fun cdv A outer s H vs Q E hr h=>?_)
 ·obtain⟨a,b,c,rfl,_⟩:=h
  rfl
 ·obtain⟨a,b,c,rfl,q1,q2⟩:=h
  refine⟨_,aD (gR PassesOwn.leaving rfl (qG (bZ (aA (pv 0) (aA (pv 1) (aA (pv 2) aB))))) (cC (i:=3) rO.nd rfl (Or.inl rfl))
    (aI (cB (PW.pt (gE (dL (dX (aH GW hr rfl mW kW bW .nil aX (aA (pv 3) aB)))) (eT (aS iT (pv 3) aC (bF _))))) (aI (dQ rfl TX.ex rfl TX.mB cR (aA aF aB))) aW)))
   (aI (cB (aS iT (pv 2) (pv 1) (bF _)) (aI (dQ rfl TX.ex rfl TX.mB cR (aA aF aB))) aW)),?_⟩
  refine⟨_,rfl,_,rfl,_,rfl,by show 3<=sizeLine;decide,fun t ht=>?_⟩
  refine⟨t,rfl,⟨_,SqT.of aE⟩,qO (K:=K) (a:=t) (xs:=[.int a,.int b,.int c]) (fun i σ H2=>aV H H2/\H2 t=some (.tup [.int a,.int b,.int c])/\(0<i->1<=a)/\(1<i->1<=b)/\(2<i->1<=c)/\∃u,σ=[some (.int a),some (.int b),some (.int c),u])
   ⟨aG ht,aE,fun z=>absurd z (by decide),fun z=>absurd z (by decide),fun z=>absurd z (by decide),_,rfl⟩ (fun i σ H2 _ ⟨_,e,_⟩=>SqT.of e) ?_ ?_⟩
  ·rintro i y σ H2 hi ⟨sm,e,n0,n1,n2,u,rfl⟩
   have il:i<3:=(List.getElem?_eq_some_iff.mp hi).1
   obtain⟨z,rfl,hz⟩:∃z:Int,y=V.int z/\(i=0/\z=a\/i=1/\z=b\/i=2/\z=c):=by
    obtain rfl|rfl|rfl:i=0\/i=1\/i=2:=by omega
    ·cases hi;exact⟨_,rfl,.inl ⟨rfl,rfl⟩⟩
    ·cases hi;exact⟨_,rfl,.inr (.inl ⟨rfl,rfl⟩)⟩
    ·cases hi;exact⟨_,rfl,.inr (.inr ⟨rfl,rfl⟩)⟩
   refine⟨_,rfl,_,rfl,.kn (.int _),_,rfl,eM ?_⟩
   refine⟨_,rfl,_,_,rfl,rfl,_,rfl,cI (fun hc=>?_) fun hc=>?_⟩
   ·have hc:=of_decide_eq_true hc
    exact⟨by show 1<=sizeLine;decide,q2 _ sm (by omega)⟩
   ·have hc:=of_decide_eq_false (Bool.eq_false_iff.mpr hc)
    exact⟨sm,e,fun _=>by omega,fun _=>by omega,fun _=>by omega,_,rfl⟩
  ·rintro σ H2 ⟨sm,e,n0,n1,n2,u,rfl⟩
   have n0:=n0 (by show 0<3;decide)
   have n1:=n1 (by show 1<3;decide)
   have n2:=n2 (by show 2<3;decide)
   refine⟨_,rfl,_,rfl,_,_,rfl,rfl,_,rfl,cI (fun hc=>?_) fun hc=>?_⟩
   ·have hc:=of_decide_eq_true hc
    exact⟨by show 1<=sizeLine;decide,q2 _ sm (by omega)⟩
   ·have hc:=of_decide_eq_false (Bool.eq_false_iff.mpr hc)
    exact q1 _ sm n0 n1 n2 (by omega)
theorem scCheck:bO ["work"] ["work"] (aM Ls.sCheck):=⟨rfl,rfl,rfl,by decide +kernel,rfl,by decide +kernel,by decide +kernel⟩
theorem zR {f fK CW:Addr} {fd fdK:FuncData} (F:Fun K "check_work" "check_work" Ls.sCheck f fd) (TX:Er K mg "BadWork" CW) (GK:aY P w K mg base CX0 3 fK fdK ["thing"] Ls.spWork) (kp:keepIn K (.ref fK)=true) (bK:bV K fdK ["thing"] []) (mK:mg "is_work"=some (.ref fK)):
  aY P w K mg base (CXE P w) 4 f fd ["work"] (pT CW):=by
 refine F.okE scCheck (fun vs H Q E h=>?_) (fun cdv A outer s H vs Q E hr h=>?_)
 ·obtain⟨x,b,rfl,_⟩:=h
  rfl
 ·obtain⟨x,b,rfl,hx,q1,q2⟩:=h
  refine⟨_,aI (cB (dL (dX (aH GK hr rfl mK kp bK .nil aX (aA (pv 0) aB)))) (aI (dQ rfl TX.ex rfl TX.mB cR (aA aF aB))) aW),?_⟩
  refine⟨_,rfl,x,b,rfl,hx,_,rfl,?_⟩
  cases b with
  | true=>exact eM (q1 rfl)
  | false=>exact cZ ⟨by show 1<=sizeLine;decide,q2 rfl⟩
theorem scNum:bO ["word"] ["word"] (aM sNum):=⟨rfl,rfl,rfl,by decide +kernel,rfl,by decide +kernel,by decide +kernel⟩
theorem ok_num {f fN CN:Addr} {fd fdN:FuncData} (F:Fun K "read_number" "read_number" sNum f fd) (G:Gb mg) (TX:Er K mg "NoText" CN) (GN:aY P w K mg base CX0 1 fN fdN ["word"] pS) (kN:keepIn K (.ref fN)=true) (bN:bV K fdN ["word"] []) (mN:mg "is_number"=some (.ref fN)):aY P w K mg base (CXE P w) 2 f fd ["word"] (vM CN):=by
 refine F.okE scNum (fun vs H Q E h=>?_) (fun cdv A outer s H vs Q E hr h=>?_)
 ·obtain⟨i,rfl,_⟩:=h
  rfl
 ·obtain⟨x,rfl,hx,q1,q2⟩:=h
  refine⟨_,aD (cB (dL (dX (aH GN hr rfl mN kN bN .nil aX (aA (pv 0) aB)))) (aI (dQ rfl TX.ex rfl TX.mB cR (aA aF aB))) aW) (aI (aT (cF pA (by rfl) G.int gU (aA (pv 0) aB)))),?_⟩
  refine⟨_,rfl,x,rfl,hx,fun H' s1=>⟨_,rfl,?_⟩⟩
  cases c:cQ x with
  | false=>
   rw [show Tm.isN (Tm.sg x)=false from c]
   exact cZ ⟨by show 1<=sizeLine;decide,q2 _ s1 c⟩
  | true=>
   rw [show Tm.isN (Tm.sg x)=true from c]
   have:=mZ c
   exact eM ⟨_,rfl,_,_,rfl,iE c,by omega,q1 _ s1 c⟩
theorem scNums:bO ["words"] ["words"] (aM sNums):=⟨rfl,rfl,rfl,by decide +kernel,rfl,by decide +kernel,by decide +kernel⟩
theorem ok_nums {f fN CN:Addr} {fd fdN:FuncData} (F:Fun K "read_numbers" "read_numbers" sNums f fd) (G:Gb mg) (GN:aY P w K mg base (CXE P w) 2 fN fdN ["word"] (vM CN)) (kN:keepIn K (.ref fN)=true) (bN:bV K fdN ["word"] []) (mN:mg "read_number"=some (.ref fN)):aY P w K mg base (CXE P w) 3 f fd ["words"] (lS CN):=by
 refine F.okE scNums (fun vs H Q E h=>?_) (fun cdv A outer s H vs Q E hr h=>?_)
 ·obtain⟨p,ns,rfl,_⟩:=h
  rfl
 ·obtain⟨p,ws,rfl,hp,ln,hb,q1,q2⟩:=h
  refine⟨_,aI (aT (cF cN (by rfl) G.tuple eX (aA (sF (NB:=["word"]) (n:=1) (js:=[]) (cl:=[]) (g:=dS 0) rfl (by decide +kernel) (by decide +kernel) rfl
    (dZ.of rfl bE (all_cons (fun z=>nomatch z) (all_cons (fun z=>nomatch z) (all_cons (fun z=>nomatch z) bE))) rfl (fun k j h=>absurd h (by simp)) bE) (mJ (E':=E) fun _ _ _ z=>z) (iI (pv 0)) (fun C s H fp pn=>cC (i:=0) ndWo rfl (Or.inl rfl) (.inr rfl)) (fun C s H fp pn=>dF)
    (fun C s H fp pn=>aH GN hr rfl mN kN bN .nil (vY (E':=E) fun _ _ _ z=>z) (aA (pv 0) aB))) aB))),?_⟩
  have sl:sizeLine=16777216:=sizeLine_eq
  refine⟨_,rfl,p,rfl,⟨_,SqL.of hp⟩,fun acc hacc=>?_⟩
  refine⟨fun i m ys H'=>m=ws.length-i/\i<=ws.length/\(∀x ∈ ws.take i,cQ x=true)/\ys=(cG (ws.take i)).map V.int/\aV H H'/\H' acc=some (.lst ys),⟨_,rfl,Nat.zero_le _,fun x hx=>absurd hx (by simp),rfl,aG hacc,aE⟩,?_⟩
  rintro i m ys H' ⟨rfl,hi,al,rfl,sm,hA⟩
  refine⟨hA,?_⟩
  have lm:(ws.map V.str).length=ws.length:=List.length_map ..
  by_cases hlt:i<ws.length
  ·refine .inr ⟨⟨_,_,SqL.of (sm _ _ hp),List.getElem?_eq_getElem (by omega)⟩,?_⟩
   rintro y H'' ⟨rfl,hy⟩
   have ey:=hy _ (SqL.of (sm _ _ hp))
   have ez:y=.str ws[i]:=by
    rw [List.getElem?_map,List.getElem?_eq_getElem hlt] at ey
    exact(Option.some.inj ey).symm
   subst ez
   refine dC ?_
   refine⟨rfl,?_⟩
   refine dH ?_
   refine cZ ?_
   have mm:=List.getElem_mem hlt
   refine⟨_,rfl,ws[i],rfl,hb _ mm,fun H3 s3 c=>?_,fun H3 s3 c=>q2 _ (sm.trans s3) fun z=>by rw [z _ mm] at c;cases c⟩
   have tk:ws.take (i+1)=ws.take i++[ws[i]]:=by
    rw [List.take_add_one,List.getElem?_eq_getElem hlt]
    rfl
   refine⟨s3 _ _ hA,by unfold cG;rw [List.length_map,List.length_map,List.length_take];omega,_,?_,rfl,hlt,fun x hx=>?_,?_,fun b o z=>?_,aE⟩
   ·omega
   ·rw [tk] at hx
    rcases List.mem_append.mp hx with hx|hx
    ·exact al x hx
    ·cases List.mem_singleton.mp hx
     exact c
   ·rw [tk]
    unfold cG
    rw [List.map_append,List.map_append]
    rfl
   ·rw [aP (aL z hacc)]
    exact s3 _ _ (sm _ _ z)
  ·refine .inl ⟨⟨_,SqL.of (sm _ _ hp),by omega⟩,?_⟩
   have ei:ws.take i=ws:=List.take_of_length_le (by omega)
   rw [ei] at hA al
   exact⟨acc,_,rfl,.inl ⟨SqL.of hA,fun r hr'=>q1 r _ (sm.trans (aG hr')) al aE⟩⟩
def kZ (CN:Addr):Sp:=fun vs H Q E=>∃x:Str,vs=[.str x]/\Tm.okR 90000 x/\(∀r H',aV H H'->(∀y ∈ Tm.wds x,1<=y.length)->H' r=some (.lst ((Tm.wds x).map V.str))->Q (.ref r) H')/\(∀H',aV H H'->¬ (∀y ∈ Tm.wds x,1<=y.length)->E (.ref CN) none H')
def prs (ns:List Int):List (Int × Int):=(List.range (ns.length / 2)).map fun i=>(ns.getD (2 * i) 0,ns.getD (2 * i+1) 0)
theorem qF (ns:List Int):(prs ns).length=ns.length / 2:=by unfold prs;rw [List.length_map,List.length_range]
theorem yT {ns:List Int} {i:Nat} (h:i<ns.length / 2):(prs ns)[i]?=some (ns.getD (2 * i) 0,ns.getD (2 * i+1) 0):=by
 unfold prs
 rw [List.getElem?_map,List.getElem?_range h]
 rfl
theorem qX {ns:List Int} {i:Nat} (h:i<ns.length):(ns.map V.int)[i]?=some (.int (ns.getD i 0)):=by
 rw [List.getElem?_map,List.getElem?_eq_getElem h,List.getD_eq_getElem?_getD,List.getElem?_eq_getElem h]
 rfl
theorem eH (ws:List Str):(cG ws).length=ws.length:=List.length_map ..
def pO (CN:Addr):Sp:=fun vs H Q E=>∃(p:Addr) (ws:List Str),vs=[.ref p]/\H p=some (.lst (ws.map V.str))/\ws.length<=100000/\(∀x ∈ ws,Tm.okS 100000 x) /\
 (∀r H',aV H H'->(∀x ∈ ws,cQ x=true)->ws.length % 2=0->Ls.WorkM H' r (prs (cG ws))->Q (.ref r) H')/\(∀H',aV H H'->¬ ((∀x ∈ ws,cQ x=true)/\ws.length % 2=0)->E (.ref CN) none H')
theorem ndAN:(["at","numbers"]:List Str).Nodup:=by decide +kernel
theorem pW:bO ["row","words","word"] ["row"] (aM uH):=⟨rfl,rfl,rfl,by decide +kernel,rfl,by decide +kernel,by decide +kernel⟩
theorem zF {f CN:Addr} {fd:FuncData} (F:Fun K "read_words" "read_words" uH f fd) (G:Gb mg) (TX:Er K mg "NoText" CN):aY P w K mg base (CXE P w) 1 f fd ["row"] (kZ CN):=by
 refine F.okE pW (fun vs H Q E h=>?_) (fun cdv A outer s H vs Q E hr h=>?_)
 ·obtain⟨x,rfl,_⟩:=h
  rfl
 ·obtain⟨x,rfl,hx,q1,q2⟩:=h
  refine⟨_,aD (aN (i:=1) pW.nd rfl (Or.inl rfl) (fU PySem.F.plainAttrs_str PySem.F.slot_str_split PySem.F.type_str_split gJ (pv 0) (aA aF aB)))
   (aD (gR PassesOwn.leaving rfl (iI (pv 1)) (cC (i:=2) pW.nd rfl (Or.inl rfl))
    (aI (cB (PW.pt (gE (dL (rW (pv 2) (fun _=>rfl))) (eT (dL (dX (aO (tH rfl) (by rfl) G.all Ls.boot_all (aA (lG (NB:=["sign"]) (g:=dS 0) rfl (by decide +kernel) (by decide +kernel) (by decide +kernel) rfl
     (yV (pv 2)) (fun C s H fp pn=>cC (i:=0) ndSg rfl (Or.inl rfl) (.inr rfl)) (fun C s H fp pn=>dF) (fun C s H fp pn=>sH iJ iJ aF (pv 0) aF)) aB))))))) (aI (dQ rfl TX.ex rfl TX.mB cR (aA aF aB))) aW)))
   (aI (aT (pv 1)))),?_⟩
  have sl:sizeLine=16777216:=sizeLine_eq
  have xl:=hx.1
  refine⟨_,rfl,rfl,_,_,rfl,rfl,by decide +kernel,by omega,fun l h1=>?_⟩
  rw [c32]
  refine⟨_,rfl,l,rfl,⟨_,SqL.of aE⟩,AaI (K:=K) (a:=l) (xs:=(Tm.wds x).map V.str) (fun i σ H2=>aV H H2/\H2 l=some (.lst ((Tm.wds x).map V.str))/\(∀y ∈ (Tm.wds x).take i,1<=y.length)/\∃u,σ=[some (.str x),some (.ref l),u])
   ⟨aG h1,aE,fun y hy=>absurd hy (by simp),_,rfl⟩ (fun i σ H2 _ ⟨_,e,_⟩=>SqL.of e) ?_ ?_⟩
  ·rintro i y σ H2 hi ⟨s2,e2,al,u,rfl⟩
   obtain⟨x',rfl,hi'⟩:∃x',y=V.str x'/\(Tm.wds x)[i]?=some x':=by
    rw [List.getElem?_map] at hi
    cases z:(Tm.wds x)[i]? with
    | none=>rw [z] at hi;cases hi
    | some x'=>rw [z] at hi;exact⟨x',(Option.some.inj hi).symm,rfl⟩
   have mem:=List.mem_of_getElem? hi'
   have oS:=Tm.wds_ok hx x' mem
   have o1:=oS.1
   refine⟨_,rfl,_,⟨by omega,rfl⟩,?_⟩
   by_cases h0:1<=x'.length
   rotate_left
   ·have:x'.length=0:=by omega
    refine jE (by simp [this]) (cZ ⟨by show 1<=sizeLine;decide,q2 _ s2 fun z=>h0 (z x' mem)⟩)
   refine fY (by simp;omega) ?_
   have yS:Tm.okS 90000 x':=oS
   refine⟨_,rfl,_,rfl,yS.ascii,fun acc hacc=>?_⟩
   refine⟨fun j m' ys H'=>m'=x'.length-j/\j<=x'.length/\ys=(List.replicate j true).map V.bl/\aV H2 H'/\H' acc=some (.lst ys),⟨_,rfl,Nat.zero_le _,rfl,aG hacc,aE⟩,?_⟩
   rintro j m' ys H' ⟨rfl,hj,rfl,sm,hA⟩
   refine⟨hA,?_⟩
   by_cases hlt:j<x'.length
   ·refine .inr ⟨hlt,?_⟩
    rintro y H'' ⟨rfl,c,hc,rfl⟩
    have hr:=yS.2 c (Array.mem_toList_iff.mpr (Array.mem_of_getElem? hc))
    refine dC ?_
    refine dH ?_
    refine cZ ?_
    refine⟨_,rfl,_,_,rfl,rfl,_,rfl,?_⟩
    rw [wI c33 rfl]
    refine jE (decide_eq_true hr.1) ⟨_,_,rfl,rfl,hA,by rw [List.length_map,List.length_replicate];omega,_,?_,rfl,hlt,?_,fun b o z=>?_,aE⟩
    ·omega
    ·rw [List.replicate_succ',List.map_append,wI rfl c126,decide_eq_true hr.2]
     rfl
    ·rw [aP (aL z hacc)]
     exact sm _ _ z
   ·refine .inl ⟨by show _<=j;omega,?_⟩
    refine⟨acc,_,rfl,SqL.of hA,?_⟩
    have ea:(List.replicate j true).all id=true:=by simp
    rw [ea]
    refine⟨_,rfl,eM ⟨s2.trans sm,sm _ _ e2,fun z hz=>?_,_,rfl⟩⟩
    rw [List.take_add_one,hi'] at hz
    rcases List.mem_append.mp hz with hz|hz
    ·exact al z hz
    ·cases List.mem_singleton.mp hz
     exact h0
  ·rintro σ H2 ⟨s2,e2,al,u,rfl⟩
   rw [List.length_map,List.take_length] at al
   exact⟨_,rfl,q1 l _ s2 al e2⟩
theorem vP:bO ["words","numbers"] ["words"] (aM uL):=⟨rfl,rfl,rfl,by decide +kernel,rfl,by decide +kernel,by decide +kernel⟩
theorem zJ {f fN CN:Addr} {fd fdN:FuncData} (F:Fun K "read_pairs" "read_pairs" uL f fd) (G:Gb mg) (TX:Er K mg "NoText" CN) (GN:aY P w K mg base (CXE P w) 3 fN fdN ["words"] (lS CN)) (kN:keepIn K (.ref fN)=true) (bN:bV K fdN ["words"] []) (mN:mg "read_numbers"=some (.ref fN)):aY P w K mg base (CXE P w) 4 f fd ["words"] (pO CN):=by
 refine F.okE vP (fun vs H Q E h=>?_) (fun cdv A outer s H vs Q E hr h=>?_)
 ·obtain⟨p,ps,rfl,_⟩:=h
  rfl
 ·obtain⟨p,ws,rfl,hp,ln,hb,q1,q2⟩:=h
  refine⟨_,aD (aN (i:=1) vP.nd rfl (Or.inr rfl) (aH GN hr rfl mN kN bN .nil (cS (E':=E) fun _ _ _ z=>z) (aA (pv 0) aB)))
   (aD (cB (aS dB (aK iA (aO bJ (by rfl) G.len PySem.boot_len (aA (pv 1) aB)) aC) aC (bF _)) (aI (dQ rfl TX.ex rfl TX.mB cR (aA aF aB))) aW)
   (aI (aT (cF cN (by rfl) G.tuple eX (aA (eP (NB:=["at","numbers"]) (n:=1) (js:=[1]) (g:=dS 0) (cl:=[("numbers",s.heap.objs.size+1)]) rfl (by decide +kernel) (by decide +kernel) rfl
     (dZ.of rfl (all_cons rfl bE) (all_cons (fun z=>nomatch z) (all_cons (fun z=>nomatch z) (all_cons (fun _=>rfl) bE))) rfl (fun k j h=>match k,j,h with|0,_,rfl=>rfl|k+1,_,h=>absurd h (by simp)) (all_cons ⟨.inl rfl,.inl rfl,rfl⟩ bE))
     (oH rfl G.range (aA aC (aA (aO bJ (by rfl) G.len PySem.boot_len (aA (pv 1) aB)) (aA aC aB)))) (fun C s H fp pn=>cC (i:=0) ndAN rfl (Or.inl rfl) (.inr rfl)) (fun C s H fp pn=>dF)
     (fun C s H fp pn=>bZ (aA (aZ (r:=rIxT K) cK (pv 1) (pv 0) (fun _ _=>rfl)) (aA (aZ (r:=rIxT K) cK (pv 1) (aK cM (pv 0) aC) (fun _ _=>rfl)) aB)))) aB))))),?_⟩
  have sl:sizeLine=16777216:=sizeLine_eq
  refine⟨_,rfl,p,ws,rfl,hp,ln,hb,fun t H1 s1 al e1=>?_,fun H' s1 z=>q2 _ s1 fun y=>z y.1⟩
  have lm:((cG ws).map V.int).length=ws.length:=by rw [List.length_map];exact eH ws
  refine⟨_,rfl,t,_,rfl,.inr (SqT.of e1),_,_,rfl,rfl,(by show (0:Int)<2;decide),rfl,_,rfl,?_⟩
  rw [lm]
  refine cI (fun hc=>?_) fun hc=>?_
  ·have hc:=V.int.inj (of_decide_eq_true hc)
   exact⟨by show 1<=sizeLine;decide,q2 _ s1 fun z=>by omega⟩
  have ev:ws.length % 2=0:=by
   have:¬ ((ws.length:Int) % 2=1):=fun z=>hc (decide_eq_true (congrArg V.int z))
   omega
  have ll:=eH ws
  have lp:=qF (cG ws)
  refine⟨_,rfl,t,_,rfl,.inr (SqT.of e1),ws.length / 2,by rw [lm];show [V.int 0,V.int (ws.length:Int),V.int 2]=[V.int 0,V.int (2 * ((ws.length / 2:Nat):Int)),V.int 2];congr 3;omega,by omega,fun acc hacc=>?_⟩
  refine⟨fun i m ys H'=>m=ws.length / 2-i/\i<=ws.length / 2/\Paired (Ls.PairAt H') ys ((prs (cG ws)).take i)/\aV H1 H'/\H' acc=some (.lst ys),⟨_,rfl,Nat.zero_le _,.nil,aG hacc,aE⟩,?_⟩
  rintro i m ys H' ⟨rfl,hi,hP,sm,hA⟩
  refine⟨hA,?_⟩
  have ly:ys.length=i:=by
   have:=hP.length
   rw [List.length_take] at this
   omega
  by_cases hlt:i<ws.length / 2
  ·refine .inr ⟨hlt,?_⟩
   rintro y H'' ⟨rfl,rfl⟩
   refine dC ?_
   refine⟨rfl,?_⟩
   refine dH ?_
   refine cZ ?_
   have et:=sm _ _ e1
   have g1:=qX (ns:=cG ws) (i:=2 * i) (by omega)
   have g2:=qX (ns:=cG ws) (i:=2 * i+1) (by omega)
   refine⟨_,rfl,_,rfl,t,_,_,_,rfl,rfl,SqT.of et,aJ (j:=2 * i) g1,_,rfl,_,rfl,_,_,rfl,rfl,t,_,_,_,rfl,rfl,SqT.of et,aJ (j:=2 * i+1) g2,by show 2<=sizeLine;decide,fun t' ht=>?_⟩
   have nt:acc≠t':=aL hA ht
   refine⟨by rw [aP nt];exact hA,by omega,_,?_,rfl,hlt,?_,fun b o z=>?_,aE⟩
   ·omega
   ·rw [List.take_add_one,yT (by omega)]
    exact dE (cA (fun v q ⟨b,z1,z2⟩=>⟨b,z1,by rw [aP (oO z2 hA (by intro z;cases z)),aP (aL z2 ht)];exact z2⟩) hP) ⟨t',rfl,by rw [aP nt.symm];exact aE⟩
   ·rw [aP (aL z hacc),aP (aL (sm _ _ z) ht)]
    exact sm _ _ z
  ·refine .inl ⟨by show _<=i;omega,?_⟩
   have ei:(prs (cG ws)).take i=prs (cG ws):=List.take_of_length_le (by omega)
   rw [ei] at hP
   exact⟨acc,_,rfl,.inl ⟨SqL.of hA,fun r hr'=>q1 r _ (s1.trans (sm.trans (aG hr'))) al ev ⟨ys,aE,cA (fun v q ⟨b,z1,z2⟩=>⟨b,z1,aG hr' _ _ z2⟩) hP⟩⟩⟩
def Gd (n:Nat) (d:PyData):Prop:=d.canLay0=true/\d.depth<=n
theorem qS:∀{ds:List PyData},(∀d ∈ ds,d.canLay0=true)->PyData.canLayAll0 ds=true
 | [],_=>by rw [PyData.canLayAll0]
 | d::ds,h=>by
  rw [PyData.canLayAll0,h d (List.mem_cons_self),qS fun e he=>h e (List.mem_cons_of_mem _ he)]
  rfl
theorem vD {n:Nat}:∀{ds:List PyData},(∀d ∈ ds,d.depth<=n)->PyData.depthAll ds<=n
 | [],_=>by rw [PyData.depthAll];exact Nat.zero_le _
 | d::ds,h=>by
  rw [PyData.depthAll]
  exact Nat.max_le.mpr ⟨h d List.mem_cons_self,vD fun e he=>h e (List.mem_cons_of_mem _ he)⟩
theorem Gd.tup {n:Nat} {ds:List PyData} (h:∀d ∈ ds,Gd n d):Gd (n+1) (.tuple ds):=by
 refine⟨?_,?_⟩
 ·rw [PyData.canLay0]
  exact qS fun d hd=>(h d hd).1
 ·rw [PyData.depth]
  exact Nat.succ_le_succ (vD fun d hd=>(h d hd).2)
theorem Gd.lst {n:Nat} {ds:List PyData} (h:∀d ∈ ds,Gd n d):Gd (n+1) (.list ds):=by
 refine⟨?_,?_⟩
 ·rw [PyData.canLay0]
  exact qS fun d hd=>(h d hd).1
 ·rw [PyData.depth]
  exact Nat.succ_le_succ (vD fun d hd=>(h d hd).2)
theorem Gd.int {n:Nat} (i:Int):Gd n (.int i):=⟨by rw [PyData.canLay0],by rw [PyData.depth];exact Nat.zero_le _⟩
theorem Gd.non {n:Nat}:Gd n .none:=⟨by rw [PyData.canLay0],by rw [PyData.depth];exact Nat.zero_le _⟩
theorem Gd.str {n:Nat} {x:Str} (h:PyData.strOk x=true):Gd n (.str x):=⟨by rw [PyData.canLay0];exact h,by rw [PyData.depth];exact Nat.zero_le _⟩
theorem Gd.shaped {n:Nat} {d:PyData} (h:Gd n d) (e:n<=64):SeqAt.shaped d=true:=by
 unfold SeqAt.shaped
 rw [h.1,decide_eq_true (Nat.le_trans h.2 e)]
 rfl
theorem fZ {n:Nat}:∀d ∈ ([]:List PyData),Gd n d:=fun d h=>absurd h (by simp)
theorem bX {n:Nat} {d:PyData} {ds:List PyData} (h:Gd n d) (hs:∀e ∈ ds,Gd n e):∀e ∈ d::ds,Gd n e:=fun e he=>by
 rcases List.mem_cons.mp he with z|z
 ·rw [z];exact h
 ·exact hs e z
theorem AaZ {α:Type} {xs ys:List α} {k:Nat} {v:α} (h1:1<=k) (h2:k<=ys.length) (e:ys[ys.length-k]?=some v):atI (xs++ys) (-(k:Int))=some v:=by
 have hl:(xs++ys).length=xs.length+ys.length:=List.length_append ..
 have ei:ixN (xs++ys).length (-(k:Int))=some (xs.length+(ys.length-k)):=by
  unfold ixN
  rw [hl,if_neg (by omega),if_pos (by omega)]
  congr 1
  omega
 unfold atI
 rw [ei]
 show (xs++ys)[xs.length+(ys.length-k)]?=_
 rw [List.getElem?_append_right (by omega),show xs.length+(ys.length-k)-xs.length=ys.length-k by omega]
 exact e
theorem wV {x:V} {xs ys:List V} (h:ys.length=6):cY ((x::xs)++ys) (some 1) (some (-6))=xs:=by
 unfold cY
 have hl:((x::xs)++ys).length=xs.length+7:=by rw [List.length_append,List.length_cons,h]
 rw [hl]
 have e1:HT.sIx (xs.length+7) 0 (some 1)=1:=by
  simp only [HT.sIx]
  rw [if_neg (by decide)]
  show min 1 (xs.length+7)=1
  omega
 have e2:HT.sIx (xs.length+7) (xs.length+7) (some (-6))=xs.length+1:=by
  simp only [HT.sIx]
  rw [if_pos (by decide)]
  omega
 rw [e1,e2]
 show (xs++ys).take (xs.length+1-1)=xs
 rw [show xs.length+1-1=xs.length by omega]
 exact List.take_left ..
theorem jQ {x:V} {xs:List V}:cY (x::xs) (some 1) none=xs:=by
 unfold cY
 have e1:HT.sIx (x::xs).length 0 (some 1)=1:=by
  simp only [HT.sIx]
  rw [if_neg (by decide),List.length_cons]
  show min 1 (xs.length+1)=1
  omega
 rw [e1]
 show xs.take ((x::xs).length-1)=xs
 exact List.take_of_length_le (by rw [List.length_cons];omega)
theorem AaU {xs:List V} {x:V}:cY (xs++[x]) none (some (-1))=xs:=by
 unfold cY
 have hl:(xs++[x]).length=xs.length+1:=by simp
 rw [hl]
 have e2:HT.sIx (xs.length+1) (xs.length+1) (some (-1))=xs.length:=by
  simp only [HT.sIx]
  rw [if_pos (by decide)]
  omega
 rw [e2]
 show ((xs++[x]).drop 0).take (xs.length-0)=xs
 rw [List.drop_zero,Nat.sub_zero]
 exact List.take_left ..
theorem cut_14 {x a b c:V} {xs:List V}:cY (x::a::b::c::xs) (some 1) (some 4)=[a,b,c]:=by
 unfold cY
 have e1:HT.sIx (x::a::b::c::xs).length 0 (some 1)=1:=by
  simp only [HT.sIx]
  rw [if_neg (by decide),List.length_cons]
  show min 1 _=1
  omega
 have e2:HT.sIx (x::a::b::c::xs).length (x::a::b::c::xs).length (some 4)=4:=by
  simp only [HT.sIx]
  rw [if_neg (by decide)]
  show min 4 (xs.length+1+1+1+1)=4
  omega
 rw [e1,e2]
 rfl
theorem cut_4 {x a b c:V} {xs:List V}:cY (x::a::b::c::xs) (some 4) none=xs:=by
 unfold cY
 have e1:HT.sIx (x::a::b::c::xs).length 0 (some 4)=4:=by
  simp only [HT.sIx]
  rw [if_neg (by decide)]
  show min 4 (xs.length+1+1+1+1)=4
  omega
 rw [e1]
 show xs.take ((x::a::b::c::xs).length-4)=xs
 exact List.take_of_length_le (by show xs.length<=xs.length+1+1+1+1-4;omega)
theorem cut_3 {x a b c d:V}:cY [x,a,b,c,d] (some 3) none=[c,d]:=rfl
theorem str_ne {x y:Str} (h:x≠y):decide (V.str x=V.str y)=false:=decide_eq_false fun z=>h (V.str.inj z)
theorem gP {B:Nat} {x:Str} (h:Tm.okS B x):PyData.strOk x=true:=by
 unfold PyData.strOk
 rw [<- Array.all_toList,List.all_eq_true]
 intro c hc
 have:=h.2 c hc
 exact decide_eq_true (by omega)
theorem dU {x:Str} (h:cQ x=true):1<=x.length:=by
 obtain⟨h1,h2⟩:=tS h
 rw [h2]
 exact(Tm.num_wd h1).ne
def HdG (ws:List Str) (ps:List (Int × Int)) (a b c:Int):Prop:=∃(mid:List Str) (x y z:Str),ws=(("work":Str)::mid)++(["span",x,"every",y,"least",z]:List Str)/\mid.length % 2=0/\(∀u ∈ mid,cQ u=true)/\cQ x=true/\cQ y=true/\cQ z=true/\ps=prs (cG mid)/\a=cL x/\b=cL y/\c=cL z
theorem len6 {α:Type} {us:List α} (h:us.length=6):∃a b c d e f,us=[a,b,c,d,e,f]:=by
 match us,h with
 | [a,b,c,d,e,f],_=>exact⟨a,b,c,d,e,f,rfl⟩
theorem six {ws:List Str} (h:7<=ws.length):∃w0 mid a b c d e f,ws=(w0::mid)++[a,b,c,d,e,f]:=by
 obtain⟨a,b,c,d,e,f,h2⟩:=len6 (us:=ws.drop (ws.length-6)) (by rw [List.length_drop];omega)
 cases h1:ws.take (ws.length-6) with
 | nil=>
  have:=congrArg List.length h1
  rw [List.length_take] at this
  simp at this
  omega
 | cons w0 mid=>exact⟨w0,mid,a,b,c,d,e,f,by rw [<- h2,<- h1,List.take_append_drop]⟩
theorem gQ {w0 a b c d e f v0 a' b' c' d' e' f':Str} {mid nid:List Str} (h:(w0::mid)++[a,b,c,d,e,f]=(v0::nid)++[a',b',c',d',e',f']):w0=v0/\mid=nid/\a=a'/\b=b'/\c=c'/\d=d'/\e=e'/\f=f':=by
 obtain⟨h1,h2⟩:=List.append_inj' h rfl
 simp only [List.cons.injEq,and_true] at h1 h2
 exact⟨h1.1,h1.2,h2⟩
theorem HdG.len {ws:List Str} {ps:List (Int × Int)} {a b c:Int} (h:HdG ws ps a b c):7<=ws.length:=by
 obtain⟨mid,x,y,z,rfl,_⟩:=h
 simp
theorem HdG.ne {ws:List Str} {ps:List (Int × Int)} {a b c:Int} (h:HdG ws ps a b c):∀u ∈ ws,1<=u.length:=fun u hu=>by
 obtain⟨mid,x,y,z,rfl,_,h1,h2,h3,h4,_⟩:=h
 rcases List.mem_append.mp hu with hu|hu
 ·rcases List.mem_cons.mp hu with rfl|hu
  ·decide +kernel
  ·exact dU (h1 u hu)
 ·simp only [List.mem_cons,List.not_mem_nil,or_false] at hu
  rcases hu with rfl|rfl|rfl|rfl|rfl|rfl
  ·decide +kernel
  ·exact dU h2
  ·decide +kernel
  ·exact dU h3
  ·decide +kernel
  ·exact dU h4
theorem HdG.fn {ws:List Str} {ps ps':List (Int × Int)} {a b c a' b' c':Int} (h:HdG ws ps a b c) (h':HdG ws ps' a' b' c'):ps=ps'/\a=a'/\b=b'/\c=c':=by
 obtain⟨mid,x,y,z,rfl,_,_,_,_,_,rfl,rfl,rfl,rfl⟩:=h
 obtain⟨mid',x',y',z',e,_,_,_,_,_,rfl,rfl,rfl,rfl⟩:=h'
 obtain⟨_,rfl,_,rfl,_,rfl,_,rfl⟩:=gQ e
 exact⟨rfl,rfl,rfl,rfl⟩
def HeadAt (H:Hp) (r:Addr) (ps:List (Int × Int)) (a b c:Int):Prop:=∃pw,H r=some (.tup [.ref pw,.int a,.int b,.int c])/\Ls.WorkM H pw ps
def pN (CN:Addr):Sp:=fun vs H Q E=>∃x:Str,vs=[.str x]/\Tm.okR 90000 x/\(∀ps a b c r H',aV H H'->HdG (Tm.wds x) ps a b c->HeadAt H' r ps a b c->Q (.ref r) H')/\(∀H',aV H H'->(∀ps a b c,¬ HdG (Tm.wds x) ps a b c)->E (.ref CN) none H')
theorem eqv4 (a b c d a' b' c' d':Str):PyData.eqv (.list [.str a,.str b,.str c,.str d]) (.list [.str a',.str b',.str c',.str d'])=decide (a=a'/\b=b'/\c=c'/\d=d'):=by
 have e:PyData.eqv (.list [.str a,.str b,.str c,.str d]) (.list [.str a',.str b',.str c',.str d'])=true↔(a=a'/\b=b'/\c=c'/\d=d'):=by
  simp [PyData.eqv,PyData.eqvAll]
 by_cases h:a=a'/\b=b'/\c=c'/\d=d'
 ·rw [decide_eq_true h];exact e.mpr h
 ·rw [decide_eq_false h];exact Bool.eq_false_iff.mpr fun z=>h (e.mp z)
theorem pY:bO ["row","words","work"] ["row"] (aM uK):=⟨rfl,rfl,rfl,by decide +kernel,rfl,by decide +kernel,by decide +kernel⟩
theorem zI {f fW fP fN CN:Addr} {fd fdW fdP fdN:FuncData} (F:Fun K "read_head" "read_head" uK f fd) (G:Gb mg) (TX:Er K mg "NoText" CN)
  (GW:aY P w K mg base (CXE P w) 4 fW fdW ["row"] (kZ CN)) (kW:keepIn K (.ref fW)=true) (bW:bV K fdW ["row"] []) (mW:mg "read_words"=some (.ref fW))
  (GP:aY P w K mg base (CXE P w) 4 fP fdP ["words"] (pO CN)) (kP:keepIn K (.ref fP)=true) (bP:bV K fdP ["words"] []) (mP:mg "read_pairs"=some (.ref fP))
  (GN:aY P w K mg base (CXE P w) 4 fN fdN ["words"] (lS CN)) (kN:keepIn K (.ref fN)=true) (bN:bV K fdN ["words"] []) (mN:mg "read_numbers"=some (.ref fN)):aY P w K mg base (CXE P w) 5 f fd ["row"] (pN CN):=by
 refine F.okE pY (fun vs H Q E h=>?_) (fun cdv A outer s H vs Q E hr h=>?_)
 ·obtain⟨x,rfl,_⟩:=h
  rfl
 ·obtain⟨x,rfl,hx,q1,q2⟩:=h
  refine⟨_,aD (aN (i:=1) pY.nd rfl (Or.inl rfl) (aH GW hr rfl mW kW bW .nil (cS (E':=E) fun _ _ _ z=>z) (aA (pv 0) aB)))
   (aD (cB (PW.pt (gE (aS iT (aO bJ (by rfl) G.len PySem.boot_len (aA (pv 1) aB)) aC (bF _)) (eT (aS (uW hr.units)
     (bU (aA (aZ aR (pv 1) aC (fun _ _=>rfl)) (aA (aZ aR (pv 1) (fT dW aC) (fun _ _=>rfl)) (aA (aZ aR (pv 1) (fT dW aC) (fun _ _=>rfl)) (aA (aZ aR (pv 1) (fT dW aC) (fun _ _=>rfl)) aB)))))
     (bU (aA aF (aA aF (aA aF (aA aF aB))))) (bF _))))) (aI (dQ rfl TX.ex rfl TX.mB cR (aA aF aB))) aW)
   (aD (aN (i:=2) pY.nd rfl (Or.inl rfl) (aH GP hr rfl mP kP bP .nil (cS (E':=E) fun _ _ _ z=>z) (aA (aQ bQ (pv 1) (aU aC) (aU (fT dW aC))) aB)))
   (aI (aT (aK cU (bZ (aA (pv 2) aB)) (aH GN hr rfl mN kN bN .nil (cS (E':=E) fun _ _ _ z=>z) (aA (bU (aA (aZ aR (pv 1) (fT dW aC) (fun _ _=>rfl)) (aA (aZ aR (pv 1) (fT dW aC) (fun _ _=>rfl)) (aA (aZ aR (pv 1) (fT dW aC) (fun _ _=>rfl)) aB)))) aB))))))),?_⟩
  have sl:sizeLine=16777216:=sizeLine_eq
  refine⟨_,rfl,x,rfl,hx,fun l H1 s1 al e1=>?_,fun H' s1 z=>q2 _ s1 fun ps a b c h=>z h.ne⟩
  have cnt:=Tm.wds_cnt x
  have xl:=hx.1
  have oS:=Tm.wds_ok hx
  generalize Tm.wds x=ws at *
  refine⟨_,rfl,l,_,rfl,.inl (SqL.of e1),_,_,rfl,rfl,_,rfl,?_⟩
  rw [List.length_map]
  refine cI (fun hc=>?_) fun hc=>?_
  ·have hc:=of_decide_eq_true hc
   exact cZ ⟨by show 1<=sizeLine;decide,q2 _ s1 fun ps a b c h=>by have:=h.len;omega⟩
  have l7:7<=ws.length:=by
   have:¬ ((ws.length:Int)<7):=fun z=>hc (decide_eq_true z)
   omega
  obtain⟨w0,mid,a,b,c,d,e,f',rfl⟩:=six l7
  have oS':∀u,u ∈ (w0::mid)++[a,b,c,d,e,f']->Tm.okS 90000 u:=oS
  have o0:=oS' w0 (by simp)
  have oa:=oS' a (by simp)
  have ob:=oS' b (by simp)
  have oc:=oS' c (by simp)
  have od:=oS' d (by simp)
  have oe:=oS' e (by simp)
  have of:=oS' f' (by simp)
  have om:∀u ∈ mid,Tm.okS 90000 u:=fun u hu=>oS' u (List.mem_append_left _ (List.mem_cons_of_mem _ hu))
  have up:∀{u:Str},Tm.okS 90000 u->Tm.okS 100000 u:=fun h=>⟨Nat.le_trans h.1 (by decide),h.2⟩
  have lm:((w0::mid)++[a,b,c,d,e,f']).length=mid.length+7:=by simp
  rw [lm] at cnt
  have e1:H1 l=some (.lst ((.str w0::mid.map V.str)++[.str a,.str b,.str c,.str d,.str e,.str f'])):=by
   rw [e1,List.map_append]
   rfl
  have bk:∀(k:Nat) (v:V),1<=k->k<=6->[V.str a,.str b,.str c,.str d,.str e,.str f'][6-k]?=some v->atI ((.str w0::mid.map V.str)++[.str a,.str b,.str c,.str d,.str e,.str f']) (-(k:Int))=some v:=fun k v h1 h2 e=>AaZ h1 h2 e
  refine⟨_,rfl,l,_,_,_,rfl,rfl,SqL.of e1,aJ (j:=0) rfl,_,rfl,6,rfl,l,_,_,_,rfl,rfl,SqL.of e1,bk 6 _ (by decide) (by decide) rfl,_,rfl,4,rfl,l,_,_,_,rfl,rfl,SqL.of e1,bk 4 _ (by decide) (by decide) rfl,_,rfl,2,rfl,l,_,_,_,rfl,rfl,SqL.of e1,bk 2 _ (by decide) (by decide) rfl,by show 4<=sizeLine;decide,fun l2 h2=>?_⟩
  refine⟨by show 4<=sizeLine;decide,fun l3 h3=>?_⟩
  have s2:aV H1 (upd H1 l2 (.lst [.str w0,.str a,.str c,.str e])):=aG h2
  have e2:(upd H1 l2 (.lst [.str w0,.str a,.str c,.str e])) l2=some (.lst [.str w0,.str a,.str c,.str e]):=aE
  have s3:=aG (o:=.lst [.str "work",.str "span",.str "every",.str "least"]) h3
  refine⟨.list [.str w0,.str a,.str c,.str e],.list [.str "work",.str "span",.str "every",.str "least"],.lst (SqL.of (s3 _ _ e2)) (.cons (.str _) (.cons (.str _) (.cons (.str _) (.cons (.str _) .nil)))),.lst (SqL.of aE) (.cons (.str _) (.cons (.str _) (.cons (.str _) (.cons (.str _) .nil)))),
   (Gd.lst (n:=0) (bX (Gd.str (gP o0)) (bX (Gd.str (gP oa)) (bX (Gd.str (gP oc)) (bX (Gd.str (gP oe)) fZ))))).shaped (by decide),(Gd.lst (n:=0) (bX (Gd.str (by decide +kernel)) (bX (Gd.str (by decide +kernel)) (bX (Gd.str (by decide +kernel)) (bX (Gd.str (by decide +kernel)) fZ))))).shaped (by decide),_,rfl,?_⟩
  rw [eqv4]
  have s13:aV H1 _:=s2.trans s3
  generalize upd (upd H1 l2 (.lst [.str w0,.str a,.str c,.str e])) l3 (.lst [.str "work",.str "span",.str "every",.str "least"])=H3 at s13 ⊢
  refine cI (fun hc=>?_) fun hc=>?_
  ·refine⟨by show 1<=sizeLine;decide,q2 _ (s1.trans s13) fun ps u v t h=>?_⟩
   obtain⟨mid',x',y',z',eq,_⟩:=h
   obtain⟨g1,_,g2,_,g3,_,g4,_⟩:=gQ eq
   rw [decide_eq_true ⟨g1,g2,g3,g4⟩] at hc
   cases hc
  obtain⟨rfl,rfl,rfl,rfl⟩:w0=Str.ofString "work"/\a=Str.ofString "span"/\c=Str.ofString "every"/\e=Str.ofString "least":=by
   by_cases z:w0=Str.ofString "work"/\a=Str.ofString "span"/\c=Str.ofString "every"/\e=Str.ofString "least"
   ·exact z
   ·rw [decide_eq_false z] at hc
    exact absurd rfl hc
  have e3:=s13 _ _ e1
  refine⟨_,rfl,_,rfl,6,rfl,_,rfl,l,_,rfl,SqL.of e3,fun l4 h4=>?_⟩
  rw [wV rfl]
  refine⟨l4,mid,rfl,aE,by omega,fun u hu=>up (om u hu),fun pw H5 s5 al5 ev hw=>?_,fun H5 s5 n5=>q2 _ (s1.trans (s13.trans ((aG h4).trans s5))) fun ps u v t h=>n5 ?_⟩
  rotate_left
  ·obtain⟨mid',x',y',z',eq,g1,g2,_⟩:=h
   obtain⟨_,rfl,_⟩:=gQ eq
   exact⟨g2,g1⟩
  have e5:=s5 _ _ (aG h4 _ _ e3)
  refine⟨_,rfl,by show 1<=sizeLine;decide,fun t ht=>?_⟩
  have s6:aV H5 (upd H5 t (.tup [.ref pw])):=aG ht
  have e6:(upd H5 t (.tup [.ref pw])) t=some (.tup [.ref pw]):=aE
  generalize upd H5 t (.tup [.ref pw])=H6 at s6 e6 ⊢
  have e1':=s6 _ _ e5
  refine⟨_,rfl,5,rfl,l,_,_,_,rfl,rfl,SqL.of e1',bk 5 _ (by decide) (by decide) rfl,_,rfl,3,rfl,l,_,_,_,rfl,rfl,SqL.of e1',bk 3 _ (by decide) (by decide) rfl,_,rfl,1,rfl,l,_,_,_,rfl,rfl,SqL.of e1',bk 1 _ (by decide) (by decide) rfl,by show 3<=sizeLine;decide,fun l7 h7=>?_⟩
  have s16:aV H H6:=s1.trans (s13.trans ((aG h4).trans (s5.trans s6)))
  refine⟨l7,[b,d,f'],rfl,aE,by show 3<=100000;decide,all_cons (up ob) (all_cons (up od) (all_cons (up of) bE)),fun r8 H8 s8 al8 e8=>?_,fun H8 s8 n8=>q2 _ (s16.trans ((aG h7).trans s8)) fun ps u v t h=>n8 ?_⟩
  rotate_left
  ·obtain⟨mid',x',y',z',eq,_,_,g1,g2,g3,_⟩:=h
   obtain⟨_,_,_,rfl,_,rfl,_,rfl⟩:=gQ eq
   exact all_cons g1 (all_cons g2 (all_cons g3 bE))
  have s68:aV H6 H8:=(aG h7).trans s8
  refine⟨t,r8,_,_,rfl,rfl,s68 _ _ e6,e8,by show 1+3<=sizeLine;decide,fun r9 H9 s9 e9=>?_⟩
  have s59:=s6.trans (s68.trans s9)
  exact q1 _ _ _ _ r9 H9 (s16.trans (s68.trans s9)) ⟨mid,b,d,f',rfl,ev,al5,al8 b (by simp),al8 d (by simp),al8 f' (by simp),rfl,rfl,rfl,rfl⟩ ⟨pw,e9,hw.same s59⟩
inductive Lx where
 | lent (a:Int) (x:Str) (b c:Int)
 | told (a b c:Int) (ns:List Int)
 | plain (k:Str) (ns:List Int)
def nR (H:Hp) (p:Addr):Lx->Prop
 | .lent a x b c=>H p=some (.tup [.str "lent",.int a,.str x,.int b,.int c])
 | .told a b c ns=>∃t,H p=some (.tup [.str "told",.int a,.int b,.int c,.ref t])/\H t=some (.tup (ns.map V.int))
 | .plain k ns=>H p=some (.tup (.str k::ns.map V.int))
theorem nR.same {H H':Hp} {p:Addr} {l:Lx} (e:aV H H') (h:nR H p l):nR H' p l:=by
 cases l with
 | lent=>exact e _ _ h
 | told=>obtain⟨t,h1,h2⟩:=h;exact⟨t,e _ _ h1,e _ _ h2⟩
 | plain=>exact e _ _ h
def rY (k:Str) (n:Nat):Prop:=k="back"/\n=2\/k="cut"/\n=2\/k="join"/\n=1
def LnG (ws:List Str):Lx->Prop
 | .lent a x b c=>∃a' b' c':Str,ws=(["lent",a',x,b',c']:List Str)/\1<=x.length/\cQ a'=true/\cQ b'=true/\cQ c'=true/\a=cL a'/\b=cL b'/\c=cL c'
 | .told a b c ns=>∃(a' b' c':Str) (ns':List Str),ws=("told":Str)::a'::b'::c'::ns'/\cQ a'=true/\cQ b'=true/\cQ c'=true/\(∀u ∈ ns',cQ u=true)/\a=cL a'/\b=cL b'/\c=cL c'/\ns=cG ns'
 | .plain k ns=>∃ns':List Str,ws=k::ns'/\rY k ns'.length/\(∀u ∈ ns',cQ u=true)/\ns=cG ns'
theorem LnG.ne {ws:List Str} {l:Lx} (h:LnG ws l):∀u ∈ ws,1<=u.length:=by
 cases l with
 | lent a x b c=>
  obtain⟨a',b',c',rfl,h0,h1,h2,h3,_⟩:=h
  exact all_cons (by decide +kernel) (all_cons (dU h1) (all_cons h0 (all_cons (dU h2) (all_cons (dU h3) bE))))
 | told a b c ns=>
  obtain⟨a',b',c',ns',rfl,h1,h2,h3,h4,_⟩:=h
  exact all_cons (by decide +kernel) (all_cons (dU h1) (all_cons (dU h2) (all_cons (dU h3) fun u hu=>dU (h4 u hu))))
 | plain k ns=>
  obtain⟨ns',rfl,h1,h2,_⟩:=h
  refine all_cons ?_ fun u hu=>dU (h2 u hu)
  rcases h1 with ⟨rfl,_⟩|⟨rfl,_⟩|⟨rfl,_⟩ <;> decide +kernel
theorem LnG.lentI {ws:List Str} {l:Lx} (h:LnG ws l) (e:ws.head?=some "lent"):∃a x b c,l=.lent a x b c:=by
 cases l with
 | lent a x b c=>exact⟨a,x,b,c,rfl⟩
 | told a b c ns=>
  obtain⟨a',b',c',ns',rfl,_⟩:=h
  exact absurd (Option.some.inj e) (by decide +kernel)
 | plain k ns=>
  obtain⟨ns',rfl,h1,_⟩:=h
  cases e
  rcases h1 with ⟨e,_⟩|⟨e,_⟩|⟨e,_⟩ <;> exact absurd e (by decide +kernel)
theorem LnG.toldI {ws:List Str} {l:Lx} (h:LnG ws l) (e:ws.head?=some "told"):∃a b c ns,l=.told a b c ns:=by
 cases l with
 | told a b c ns=>exact⟨a,b,c,ns,rfl⟩
 | lent a x b c=>
  obtain⟨a',b',c',rfl,_⟩:=h
  exact absurd (Option.some.inj e) (by decide +kernel)
 | plain k ns=>
  obtain⟨ns',rfl,h1,_⟩:=h
  cases e
  rcases h1 with ⟨e,_⟩|⟨e,_⟩|⟨e,_⟩ <;> exact absurd e (by decide +kernel)
theorem LnG.plainI {ws:List Str} {l:Lx} (h:LnG ws l) (e1:ws.head?≠some "lent") (e2:ws.head?≠some "told"):∃k ns,l=.plain k ns:=by
 cases l with
 | plain k ns=>exact⟨k,ns,rfl⟩
 | lent a x b c=>
  obtain⟨a',b',c',rfl,_⟩:=h
  exact absurd rfl e1
 | told a b c ns=>
  obtain⟨a',b',c',ns',rfl,_⟩:=h
  exact absurd rfl e2
theorem LnG.fn {ws:List Str} {l l':Lx} (h:LnG ws l) (h':LnG ws l'):l=l':=by
 cases l with
 | lent a x b c=>
  obtain⟨a2,x2,b2,c2,rfl⟩:=h'.lentI (by obtain⟨a',b',c',rfl,_⟩:=h;rfl)
  obtain⟨a',b',c',rfl,_,_,_,_,rfl,rfl,rfl⟩:=h
  obtain⟨a1,b1,c1,e,_,_,_,_,rfl,rfl,rfl⟩:=h'
  simp only [List.cons.injEq,and_true] at e
  obtain⟨_,rfl,rfl,rfl,rfl⟩:=e
  rfl
 | told a b c ns=>
  obtain⟨a2,b2,c2,ns2,rfl⟩:=h'.toldI (by obtain⟨a',b',c',ns',rfl,_⟩:=h;rfl)
  obtain⟨a',b',c',ns',rfl,_,_,_,_,rfl,rfl,rfl,rfl⟩:=h
  obtain⟨a1,b1,c1,ns1,e,_,_,_,_,rfl,rfl,rfl,rfl⟩:=h'
  simp only [List.cons.injEq] at e
  obtain⟨_,rfl,rfl,rfl,rfl⟩:=e
  rfl
 | plain k ns=>
  obtain⟨ns',rfl,h1,_,rfl⟩:=h
  obtain⟨k2,ns2,rfl⟩:=h'.plainI (fun z=>by
   cases z
   rcases h1 with ⟨e,_⟩|⟨e,_⟩|⟨e,_⟩ <;> exact absurd e (by decide +kernel)) (fun z=>by
   cases z
   rcases h1 with ⟨e,_⟩|⟨e,_⟩|⟨e,_⟩ <;> exact absurd e (by decide +kernel))
  obtain⟨ns1,e,_,_,rfl⟩:=h'
  simp only [List.cons.injEq] at e
  obtain⟨rfl,rfl⟩:=e
  rfl
def pM (CN:Addr):Sp:=fun vs H Q E=>∃x:Str,vs=[.str x]/\Tm.okR 90000 x/\(∀l r H',aV H H'->LnG (Tm.wds x) l->nR H' r l->Q (.ref r) H')/\(∀H',aV H H'->(∀l,¬ LnG (Tm.wds x) l)->E (.ref CN) none H')
def plain:List (Str × Int):=[("back",3),("cut",3),("join",2)]
theorem oF {k:Str} (h:kdpHas plain k=true) {n:Nat}:kdpLook plain k 0=((n+1:Nat):Int)↔rY k n:=by
 have:k="back"\/k="cut"\/k="join":=by
  unfold kdpHas plain at h
  simp at h
  rcases h with h|h|h
  ·exact .inl h.symm
  ·exact .inr (.inl h.symm)
  ·exact .inr (.inr h.symm)
 unfold rY
 rcases this with rfl|rfl|rfl
 ·rw [show kdpLook plain "back" 0=3 from by decide +kernel]
  constructor
  ·intro z;exact .inl ⟨rfl,by omega⟩
  ·rintro(⟨_,z⟩|⟨e,_⟩|⟨e,_⟩)
   ·omega
   ·exact absurd e (by decide +kernel)
   ·exact absurd e (by decide +kernel)
 ·rw [show kdpLook plain "cut" 0=3 from by decide +kernel]
  constructor
  ·intro z;exact .inr (.inl ⟨rfl,by omega⟩)
  ·rintro(⟨e,_⟩|⟨_,z⟩|⟨e,_⟩)
   ·exact absurd e (by decide +kernel)
   ·omega
   ·exact absurd e (by decide +kernel)
 ·rw [show kdpLook plain "join" 0=2 from by decide +kernel]
  constructor
  ·intro z;exact .inr (.inr ⟨rfl,by omega⟩)
  ·rintro(⟨e,_⟩|⟨e,_⟩|⟨_,z⟩)
   ·exact absurd e (by decide +kernel)
   ·exact absurd e (by decide +kernel)
   ·omega
theorem xH {k:Str} (h:kdpHas plain k=false) {n:Nat}:¬ rY k n:=by
 rintro(⟨rfl,_⟩|⟨rfl,_⟩|⟨rfl,_⟩)
 ·exact absurd h (by decide +kernel)
 ·exact absurd h (by decide +kernel)
 ·exact absurd h (by decide +kernel)
theorem lenF {α:Type} {us:List α} (h:us.length=4):∃a b c d,us=[a,b,c,d]:=by
 match us,h with
 | [a,b,c,d],_=>exact⟨a,b,c,d,rfl⟩
theorem vO:bO ["row","words"] ["row"] (aM uJ):=⟨rfl,rfl,rfl,by decide +kernel,rfl,by decide +kernel,by decide +kernel⟩
theorem zH {f fW fR fN d CN:Addr} {fd fdW fdR fdN:FuncData} (F:Fun K "read_line" "read_line" uJ f fd) (G:Gb mg) (TX:Er K mg "NoText" CN) (T:TabK P w K d plain) (mT:mg "PLAIN_WORDS"=some (.ref d))
  (GW:aY P w K mg base (CXE P w) 4 fW fdW ["row"] (kZ CN)) (kW:keepIn K (.ref fW)=true) (bW:bV K fdW ["row"] []) (mW:mg "read_words"=some (.ref fW))
  (GR:aY P w K mg base (CXE P w) 4 fR fdR ["word"] (vM CN)) (kR:keepIn K (.ref fR)=true) (bR:bV K fdR ["word"] []) (mR:mg "read_number"=some (.ref fR))
  (GN:aY P w K mg base (CXE P w) 4 fN fdN ["words"] (lS CN)) (kN:keepIn K (.ref fN)=true) (bN:bV K fdN ["words"] []) (mN:mg "read_numbers"=some (.ref fN)):aY P w K mg base (CXE P w) 5 f fd ["row"] (pM CN):=by
 refine F.okE vO (fun vs H Q E h=>?_) (fun cdv A outer s H vs Q E hr h=>?_)
 ·obtain⟨l,rfl,_⟩:=h
  rfl
 ·obtain⟨x,rfl,hx,q1,q2⟩:=h
  refine⟨_,aD (aN (i:=1) vO.nd rfl (Or.inl rfl) (aH GW hr rfl mW kW bW .nil (cS (E':=E) fun _ _ _ z=>z) (aA (pv 0) aB)))
   (aD (cB (PW.pt (jY (aS dB (aZ aR (pv 1) aC (fun _ _=>rfl)) aF (bF _)) (iH (aS dB (aO bJ (by rfl) G.len PySem.boot_len (aA (pv 1) aB)) aC (bF _)))))
     (aI (aT (aK cU (bZ (aA aF (aA (aH GR hr rfl mR kR bR .nil (cS (E':=E) fun _ _ _ z=>z) (aA (aZ aR (pv 1) aC (fun _ _=>rfl)) aB)) (aA (aZ aR (pv 1) aC (fun _ _=>rfl)) aB)))) (aH GN hr rfl mN kN bN .nil (cS (E':=E) fun _ _ _ z=>z) (aA (aQ bQ (pv 1) (aU aC) bI) aB))))) aW)
   (aD (cB (PW.pt (jY (aS dB (aZ aR (pv 1) aC (fun _ _=>rfl)) aF (bF _)) (iH (aS sK (aO bJ (by rfl) G.len PySem.boot_len (aA (pv 1) aB)) aC (bF _)))))
     (aI (aT (aK cU (aK cU (bZ (aA aF aB)) (aH GN hr rfl mN kN bN .nil (cS (E':=E) fun _ _ _ z=>z) (aA (aQ bQ (pv 1) (aU aC) (aU aC)) aB))) (bZ (aA (aH GN hr rfl mN kN bN .nil (cS (E':=E) fun _ _ _ z=>z) (aA (aQ bQ (pv 1) (aU aC) bI) aB)) aB))))) aW)
   (aD (cB (aS dB (pe_tget T rfl mT (aZ aR (pv 1) aC (fun _ _=>rfl)) (by constructor <;> rfl)) (aO bJ (by rfl) G.len PySem.boot_len (aA (pv 1) aB)) (bF _))
     (aI (aT (aK cU (bZ (aA (aZ aR (pv 1) aC (fun _ _=>rfl)) aB)) (aH GN hr rfl mN kN bN .nil (cS (E':=E) fun _ _ _ z=>z) (aA (aQ bQ (pv 1) (aU aC) bI) aB))))) aW)
   (aI (dQ rfl TX.ex rfl TX.mB cR (aA aF aB)))))),?_⟩
  have sl:sizeLine=16777216:=sizeLine_eq
  refine⟨_,rfl,x,rfl,hx,fun lw H1 s1 al e1=>?_,fun H' s1 z=>q2 _ s1 fun l h=>z h.ne⟩
  have cnt:=Tm.wds_cnt x
  have xl:=hx.1
  have oS:=Tm.wds_ok hx
  have nE:=Tm.wds_ne x
  have up:∀{u:Str},Tm.okS 90000 u->Tm.okS 100000 u:=fun h=>⟨Nat.le_trans h.1 (by decide),h.2⟩
  generalize Tm.wds x=ws at *
  obtain⟨w0,ws,rfl⟩:∃w0 t,ws=w0::t:=by
   cases ws with
   | nil=>exact absurd rfl nE
   | cons a t=>exact⟨a,t,rfl⟩
  have e1:H1 lw=some (.lst (.str w0::ws.map V.str)):=e1
  have ln:ws.length<=90000:=by rw [List.length_cons] at cnt;omega
  have ll:(V.str w0::ws.map V.str).length=ws.length+1:=by rw [List.length_cons,List.length_map]
  have oT:∀u ∈ ws,Tm.okS 100000 u:=fun u hu=>up (oS u (List.mem_cons_of_mem _ hu))
  have bad:∀H',aV H H'->(∀l,¬ LnG (w0::ws) l)->(1:Nat)<=sizeLine/\E (.ref CN) none H':=fun H' s h=>⟨by rw [sl];omega,q2 _ s h⟩
  refine⟨_,rfl,lw,_,_,_,rfl,rfl,SqL.of e1,aJ (j:=0) rfl,rfl,_,rfl,?_⟩
  refine cI (fun c1=>?_) (fun c1=>eM ?_)
  ·have c1:w0="lent":=V.str.inj (of_decide_eq_true c1)
   refine⟨_,rfl,lw,_,rfl,.inl (SqL.of e1),rfl,_,rfl,?_⟩
   rw [ll]
   refine cI (fun c2=>?_) (fun c2=>?_)
   ·subst c1
    have c2:=V.int.inj (of_decide_eq_true c2)
    obtain⟨a,y,b,c,rfl⟩:∃a y b c,ws=[a,y,b,c]:=by
     obtain⟨a,y,b,c,z⟩:=lenF (us:=ws) (by omega)
     exact⟨a,y,b,c,z⟩
    have e1:H1 lw=some (.lst [.str "lent",.str a,.str y,.str b,.str c]):=e1
    have oa:=oT a (by simp)
    have ob:=oT b (by simp)
    have oc:=oT c (by simp)
    have inv:∀l,LnG (("lent":Str)::[a,y,b,c]) l->cQ a=true/\cQ b=true/\cQ c=true:=fun l h=>by
     obtain⟨a2,x2,b2,c2,rfl⟩:=h.lentI rfl
     obtain⟨a',b',c',e,_,h1,h2,h3,_⟩:=h
     simp only [List.cons.injEq,and_true] at e
     obtain⟨_,rfl,_,rfl,rfl⟩:=e
     exact⟨h1,h2,h3⟩
    refine⟨_,rfl,lw,_,_,_,rfl,rfl,SqL.of e1,aJ (j:=1) rfl,a,rfl,oa,fun H2 s2 na=>?_,fun H2 s2 na=>q2 _ (s1.trans s2) fun l h=>by rw [(inv l h).1] at na;cases na⟩
    have e2:=s2 _ _ e1
    refine⟨_,rfl,lw,_,_,_,rfl,rfl,SqL.of e2,aJ (j:=2) rfl,by show 3<=sizeLine;decide,fun t ht=>?_⟩
    obtain⟨H3,hh,s3,e3⟩:=Ls.alo ht (.tup [.str "lent",.int (cL a),.str y])
    rw [hh]
    refine⟨_,rfl,_,rfl,lw,_,rfl,SqL.of (s3 _ _ e2),fun l4 h4=>?_⟩
    rw [cut_3]
    refine⟨l4,[b,c],rfl,aE,by show 2<=100000;decide,all_cons ob (all_cons oc bE),fun r5 H5 s5 n5 e5=>?_,fun H5 s5 n5=>q2 _ (s1.trans (s2.trans (s3.trans ((aG h4).trans s5)))) fun l h=>n5 (all_cons (inv l h).2.1 (all_cons (inv l h).2.2 bE))⟩
    have s35:aV H3 H5:=(aG h4).trans s5
    exact⟨t,r5,_,_,rfl,rfl,s35 _ _ e3,e5,by show 3+2<=sizeLine;decide,fun r6 H6 s6 e6=>q1 (.lent (cL a) y (cL b) (cL c)) r6 H6 (s1.trans (s2.trans (s3.trans (s35.trans s6)))) ⟨a,b,c,rfl,al y (by simp),na,n5 b (by simp),n5 c (by simp),rfl,rfl,rfl⟩ e6⟩
   ·refine⟨_,rfl,lw,_,_,_,rfl,rfl,SqL.of e1,aJ (j:=0) rfl,rfl,_,rfl,fY (str_ne (by rw [c1];decide +kernel)) (eM ?_)⟩
    have no:∀l,¬ LnG (w0::ws) l:=fun l h=>by
     obtain⟨a2,x2,b2,c2',rfl⟩:=h.lentI (by rw [c1];rfl)
     obtain⟨a',b',c',e,_⟩:=h
     refine c2 (decide_eq_true ?_)
     have:=congrArg List.length e
     rw [List.length_cons] at this
     rw [this]
     rfl
    have kh:kdpHas plain w0=false:=by rw [c1];decide +kernel
    exact⟨_,rfl,lw,_,_,_,rfl,rfl,SqL.of e1,aJ (j:=0) rfl,w0,rfl,fun hk=>(by rw [kh] at hk;cases hk),fun hk=>⟨_,rfl,lw,_,rfl,.inl (SqL.of e1),rfl,_,rfl,eM (bad _ s1 no)⟩⟩
  ·have c1:w0≠"lent":=fun z=>c1 (decide_eq_true (by rw [z]))
   refine⟨_,rfl,lw,_,_,_,rfl,rfl,SqL.of e1,aJ (j:=0) rfl,rfl,_,rfl,cI (fun c2=>?_) (fun c2=>eM ?_)⟩
   ·have c2:w0="told":=V.str.inj (of_decide_eq_true c2)
    refine⟨_,rfl,lw,_,rfl,.inl (SqL.of e1),_,_,rfl,rfl,_,rfl,?_⟩
    rw [ll]
    refine cI (fun c3=>?_) (fun c3=>?_)
    ·subst c2
     have c3:=of_decide_eq_true c3
     obtain⟨a,b,c,ns,rfl⟩:∃a b c ns,ws=a::b::c::ns:=by
      obtain⟨a,t1,rfl⟩:∃a t,ws=a::t:=List.exists_cons_of_length_pos (by omega)
      obtain⟨b,t2,rfl⟩:∃a t,t1=a::t:=List.exists_cons_of_length_pos (by simp only [List.length_cons] at c3;omega)
      obtain⟨c,t3,rfl⟩:∃a t,t2=a::t:=List.exists_cons_of_length_pos (by simp only [List.length_cons] at c3;omega)
      exact⟨a,b,c,t3,rfl⟩
     have e1:H1 lw=some (.lst (.str "told"::.str a::.str b::.str c::ns.map V.str)):=e1
     have inv:∀l,LnG (("told":Str)::a::b::c::ns) l->(∀u ∈ [a,b,c],cQ u=true)/\∀u ∈ ns,cQ u=true:=fun l h=>by
      obtain⟨a2,b2,c2,ns2,rfl⟩:=h.toldI rfl
      obtain⟨a',b',c',ns',e,h1,h2,h3,h4,_⟩:=h
      simp only [List.cons.injEq] at e
      obtain⟨_,rfl,rfl,rfl,rfl⟩:=e
      exact⟨all_cons h1 (all_cons h2 (all_cons h3 bE)),h4⟩
     refine⟨by show 1<=sizeLine;decide,fun t ht=>?_⟩
     obtain⟨H2,hh,s2,e2⟩:=Ls.alo ht (.tup [.str "told"])
     rw [hh]
     have e12:=s2 _ _ e1
     refine⟨_,rfl,_,rfl,_,rfl,lw,_,rfl,SqL.of e12,fun l3 h3=>?_⟩
     rw [cut_14]
     refine⟨l3,[a,b,c],rfl,aE,by show 3<=100000;decide,fun u hu=>oT u (by simp at hu ⊢;rcases hu with z|z|z <;> simp [z]),fun r4 H4 s4 n4 e4=>?_,fun H4 s4 n4=>q2 _ (s1.trans (s2.trans ((aG h3).trans s4))) fun l h=>n4 (inv l h).1⟩
     have s24:aV H2 H4:=(aG h3).trans s4
     refine⟨t,r4,_,_,rfl,rfl,s24 _ _ e2,e4,by show 1+3<=sizeLine;decide,fun r5 H5 s5 e5=>?_⟩
     have e15:=s5 _ _ (s24 _ _ e12)
     have s15:aV H H5:=s1.trans (s2.trans (s24.trans s5))
     refine⟨_,rfl,_,rfl,lw,_,rfl,SqL.of e15,fun l6 h6=>?_⟩
     rw [cut_4]
     refine⟨l6,ns,rfl,aE,by simp only [List.length_cons] at ln;omega,fun u hu=>oT u (List.mem_cons_of_mem _ (List.mem_cons_of_mem _ (List.mem_cons_of_mem _ hu))),fun r7 H7 s7 n7 e7=>?_,fun H7 s7 n7=>q2 _ (s15.trans ((aG h6).trans s7)) fun l h=>n7 (inv l h).2⟩
     have s57:aV H5 H7:=(aG h6).trans s7
     refine⟨by show 1<=sizeLine;decide,fun t8 h8=>?_⟩
     have s8:aV H7 (upd H7 t8 (.tup [.ref r7])):=aG h8
     exact⟨r5,t8,_,_,rfl,rfl,s8 _ _ (s57 _ _ e5),aE,by show 4+1<=sizeLine;decide,fun r9 H9 s9 e9=>q1 (.told (cL a) (cL b) (cL c) (cG ns)) r9 H9 (s15.trans (s57.trans (s8.trans s9))) ⟨a,b,c,ns,rfl,n4 a (by simp),n4 b (by simp),n4 c (by simp),n7,rfl,rfl,rfl,rfl⟩ ⟨r7,e9,s9 _ _ (s8 _ _ e7)⟩⟩
    ·have no:∀l,¬ LnG (w0::ws) l:=fun l h=>by
      obtain⟨a2,b2,c2',ns2,rfl⟩:=h.toldI (by rw [c2];rfl)
      obtain⟨a',b',c',ns',e,_⟩:=h
      refine c3 (decide_eq_true ?_)
      have:=congrArg List.length e
      simp only [List.length_cons] at this
      omega
     have kh:kdpHas plain w0=false:=by rw [c2];decide +kernel
     exact⟨_,rfl,lw,_,_,_,rfl,rfl,SqL.of e1,aJ (j:=0) rfl,w0,rfl,fun hk=>(by rw [kh] at hk;cases hk),fun hk=>⟨_,rfl,lw,_,rfl,.inl (SqL.of e1),rfl,_,rfl,eM (bad _ s1 no)⟩⟩
   ·have c2:w0≠"told":=fun z=>c2 (decide_eq_true (by rw [z]))
    have pl:∀l,LnG (w0::ws) l->rY w0 ws.length/\∀u ∈ ws,cQ u=true:=fun l h=>by
     obtain⟨k,ns,rfl⟩:=h.plainI (fun z=>c1 (Option.some.inj z)) (fun z=>c2 (Option.some.inj z))
     obtain⟨ns',e,h1,h2,_⟩:=h
     simp only [List.cons.injEq] at e
     obtain⟨rfl,rfl⟩:=e
     exact⟨h1,h2⟩
    refine⟨_,rfl,lw,_,_,_,rfl,rfl,SqL.of e1,aJ (j:=0) rfl,w0,rfl,fun hk=>?_,fun hk=>?_⟩
    ·refine⟨_,rfl,lw,_,rfl,.inl (SqL.of e1),rfl,_,rfl,?_⟩
     rw [ll]
     refine cI (fun c3=>?_) (fun c3=>?_)
     ·have pk:=(oF hk).mp (V.int.inj (of_decide_eq_true c3))
      refine⟨_,rfl,lw,_,_,_,rfl,rfl,SqL.of e1,aJ (j:=0) rfl,by show 1<=sizeLine;decide,fun t ht=>?_⟩
      obtain⟨H2,hh,s2,e2⟩:=Ls.alo ht (.tup [.str w0])
      rw [hh]
      refine⟨_,rfl,_,rfl,lw,_,rfl,SqL.of (s2 _ _ e1),fun l3 h3=>?_⟩
      rw [jQ]
      refine⟨l3,ws,rfl,aE,by omega,oT,fun r4 H4 s4 n4 e4=>?_,fun H4 s4 n4=>q2 _ (s1.trans (s2.trans ((aG h3).trans s4))) fun l h=>n4 (pl l h).2⟩
      have s24:aV H2 H4:=(aG h3).trans s4
      have l4:((cG ws).map V.int).length=ws.length:=by rw [List.length_map];exact eH ws
      exact⟨t,r4,_,_,rfl,rfl,s24 _ _ e2,e4,by rw [l4];show 1+_<=sizeLine;omega,fun r5 H5 s5 e5=>q1 (.plain w0 (cG ws)) r5 H5 (s1.trans (s2.trans (s24.trans s5))) ⟨ws,rfl,pk,n4,rfl⟩ e5⟩
     ·exact bad _ s1 fun l h=>c3 (decide_eq_true (congrArg V.int ((oF hk).mpr (pl l h).1)))
    ·refine⟨_,rfl,lw,_,rfl,.inl (SqL.of e1),rfl,_,rfl,eM ?_⟩
     exact bad _ s1 fun l h=>xH hk (pl l h).1
def rws (t:Str):List Str:=(Txt.split t ⟨#[10]⟩).dropLast
def tZ:Sp:=fun vs H Q _=>∃t:Str,vs=[.str t]/\t.length+2<=sizeLine/\∀r H',aV H H'->H' r=some (.lst ((rws t).map V.str))->Q (.ref r) H'
theorem tD {xs:List V} (h:xs≠[]):cY xs none (some (-1))=xs.dropLast:=by
 have e:=List.dropLast_concat_getLast h
 rw [<- e,AaU,List.dropLast_concat]
def Rl (rs:List Str) (ls:List Lx):Prop:=Paired (fun r l=>LnG (Tm.wds r) l) rs ls
def TxG (rows:List Str) (ps:List (Int × Int)) (a b c:Int) (ls:List Lx):Prop:=∃r0 rs,rows=r0::rs/\HdG (Tm.wds r0) ps a b c/\Rl rs ls
theorem Rl.fn:∀{rs:List Str} {ls ls':List Lx},Rl rs ls->Rl rs ls'->ls=ls'
 | _,_,_,.nil,.nil=>rfl
 | _,_,_,.cons a t,.cons a' t'=>by rw [LnG.fn a a',Rl.fn t t']
theorem TxG.fn {rows:List Str} {ps ps':List (Int × Int)} {a b c a' b' c':Int} {ls ls':List Lx} (h:TxG rows ps a b c ls) (h':TxG rows ps' a' b' c' ls'):ps=ps'/\a=a'/\b=b'/\c=c'/\ls=ls':=by
 obtain⟨r0,rs,rfl,h1,h2⟩:=h
 obtain⟨r0',rs',e,h1',h2'⟩:=h'
 cases e
 obtain⟨z1,z2,z3,z4⟩:=h1.fn h1'
 exact⟨z1,z2,z3,z4,h2.fn h2'⟩
def stO (p:Int × Int):Option (Int × Int):=if p.1<p.2 then some p else none
def wkP (ps:List (Int × Int)):Prop:=Ls.WorkP (ps.map stO)
def bdP (a b c:Int):Prop:=1<=a/\1<=b/\1<=c/\b<=c
theorem sI {H:Hp}:∀{xs:List V} {ps:List (Int × Int)},Paired (Ls.PairAt H) xs ps->Paired (Ls.StrV H) xs (ps.map stO)
 | _,_,.nil=>.nil
 | _,q::ps,.cons ⟨b,e1,e2⟩ t=>by
  subst e1
  refine .cons ?_ (sI t)
  unfold stO
  split
  ·next h=>exact .yes e2 h
  ·next h=>exact .turned e2 (by omega)
open Classical in
noncomputable def wkB (ps:List (Int × Int)):Bool:=decide (wkP ps)
open Classical in
theorem nS {ps:List (Int × Int)}:wkB ps=true↔wkP ps:=decide_eq_true_iff
theorem wkB_f {ps:List (Int × Int)} (h:wkB ps=false):¬ wkP ps:=fun z=>by rw [nS.mpr z] at h;cases h
theorem yD {H:Hp} {p:Addr} {ps:List (Int × Int)} (h:Ls.WorkM H p ps) (hl:ps.length<=100000):Ls.WorkV H (.ref p) (wkB ps):=by
 obtain⟨xs,h1,h2⟩:=h
 exact .tup h1 (by rw [h2.length];exact hl) (sI h2) nS
def LxV (H:Hp) (v:V) (l:Lx):Prop:=∃b,v=.ref b/\nR H b l
theorem LxV.same {H H':Hp} {v:V} {l:Lx} (e:aV H H') (h:LxV H v l):LxV H' v l:=by
 obtain⟨b,h1,h2⟩:=h
 exact⟨b,h1,h2.same e⟩
theorem nR.tups {H H':Hp} (e:∀b xs,H b=some (.tup xs)->H' b=some (.tup xs)) {p:Addr} {l:Lx} (h:nR H p l):nR H' p l:=by
 cases l with
 | lent=>exact e _ _ h
 | told=>obtain⟨t,h1,h2⟩:=h;exact⟨t,e _ _ h1,e _ _ h2⟩
 | plain=>exact e _ _ h
def tK (H:Hp) (r:Addr) (ps:List (Int × Int)) (a b c:Int) (ls:List Lx):Prop:=∃(pw pl:Addr) (xs:List V),H r=some (.tup [.ref pw,.int a,.int b,.int c,.ref pl])/\Ls.WorkM H pw ps/\H pl=some (.tup xs)/\Paired (LxV H) xs ls
def okT (t:Str):Prop:=t.length<=1000000/\(∀r ∈ rws t,Tm.okR 90000 r)/\(rws t).length<=1000
def tY (CN CW CB:Addr):Sp:=fun vs H Q E=>∃t:Str,vs=[.str t]/\okT t /\
 (∀ps a b c ls r H',aV H H'->TxG (rws t) ps a b c ls->wkP ps->bdP a b c->tK H' r ps a b c ls->Q (.ref r) H')/\(∀H',aV H H'->(∀ps a b c ls,¬ TxG (rws t) ps a b c ls)->E (.ref CN) none H') /\
 (∀ps a b c ls H',aV H H'->TxG (rws t) ps a b c ls->¬ wkP ps->E (.ref CW) none H')/\(∀ps a b c ls H',aV H H'->TxG (rws t) ps a b c ls->wkP ps->¬ bdP a b c->E (.ref CB) none H')
inductive NoS (H:Hp):V->Prop where
 | non:NoS H .non
 | bl (b:Bool):NoS H (.bl b)
 | int (i:Int):NoS H (.int i)
 | lst {a:Addr} {xs:List V} (e:H a=some (.lst xs)):NoS H (.ref a)
 | tup {a:Addr} {xs:List V} (e:H a=some (.tup xs)):NoS H (.ref a)
theorem wX {K:Frag} {H:Hp} (x:Str):∃t,gW K H (.str x) t/\kitOne K t (.type "str")=some true:=⟨_,.str x,by rfl⟩
theorem yB {K:Frag} {H:Hp} {v:V} (h:NoS H v):∃t,gW K H v t/\kitOne K t (.type "str")=some false:=by
 cases h with
 | non=>exact⟨_,.non,by kernel_rfl⟩
 | bl b=>exact⟨_,.bl b,by kernel_rfl⟩
 | int i=>exact⟨_,.int i,by kernel_rfl⟩
 | lst q=>exact⟨_,.lst q,by kernel_rfl⟩
 | tup q=>exact⟨_,.tup q,by kernel_rfl⟩
def pK (CN:Addr):Sp:=fun vs H Q E=>∃v,vs=[v]/\NoS H v/\E (.ref CN) none H
theorem ndRo:(["row"]:List Str).Nodup:=by decide +kernel
theorem prs_bd (ws:List Str) (h:ws.length<=100000):(prs (cG ws)).length<=100000:=by rw [qF,eH];omega
theorem HdG.few {ws:List Str} {ps:List (Int × Int)} {a b c:Int} (h:HdG ws ps a b c) (l:ws.length<=100000):ps.length<=100000:=by
 obtain⟨mid,x,y,z,rfl,_,_,_,_,_,rfl,_⟩:=h
 exact prs_bd _ (by simp at l;omega)
theorem scRows:bO ["text"] ["text"] (aM sRows):=⟨rfl,rfl,rfl,by decide +kernel,rfl,by decide +kernel,by decide +kernel⟩
theorem ok_rows {f:Addr} {fd:FuncData} (F:Fun K "whole_rows" "whole_rows" sRows f fd):aY P w K mg base CX0 1 f fd ["text"] tZ:=by
 refine F.ok scRows (fun vs H Q E h=>?_) (fun cdv A outer s H vs Q E hr h=>?_)
 ·obtain⟨t,rfl,_⟩:=h
  rfl
 ·obtain⟨t,rfl,hl,q⟩:=h
  refine⟨_,aI (aT (aQ bQ (fU PySem.F.plainAttrs_str PySem.F.slot_str_split PySem.F.type_str_split gJ (pv 0) (aA aF aB)) bI (aU (fT dW aC)))),?_⟩
  refine⟨_,rfl,rfl,_,_,rfl,rfl,by decide +kernel,hl,fun l h1=>?_⟩
  rw [c10]
  refine⟨1,rfl,_,rfl,l,_,rfl,SqL.of aE,fun l2 h2=>?_⟩
  refine q l2 _ ((aG h1).trans (aG h2)) ?_
  rw [aE]
  show some (HO.lst (cY ((Txt.split t ⟨#[10]⟩).map V.str) none (some (-1))))=_
  rw [tD (by simpa using Tm.split_ne t 10)]
  unfold rws
  rw [List.map_dropLast]
theorem pX:bO ["text","rows","head","lines"] ["text"] (aM sText):=⟨rfl,rfl,rfl,by decide +kernel,rfl,by decide +kernel,by decide +kernel⟩
theorem ok_text {f fR fH fL fC fB CN CW CB:Addr} {fd fdR fdH fdL fdC fdB:FuncData} (F:Fun K "read_text" "read_text" sText f fd) (G:Gb mg) (TX:Er K mg "NoText" CN)
  (GR:aY P w K mg base CX0 5 fR fdR ["text"] tZ) (kR:keepIn K (.ref fR)=true) (bR:bV K fdR ["text"] []) (mR:mg "whole_rows"=some (.ref fR))
  (GH:aY P w K mg base (CXE P w) 5 fH fdH ["row"] (pN CN)) (kH:keepIn K (.ref fH)=true) (bH:bV K fdH ["row"] []) (mH:mg "read_head"=some (.ref fH))
  (GL:aY P w K mg base (CXE P w) 5 fL fdL ["row"] (pM CN)) (kL:keepIn K (.ref fL)=true) (bL:bV K fdL ["row"] []) (mL:mg "read_line"=some (.ref fL))
  (GC:aY P w K mg base (CXE P w) 5 fC fdC ["work"] (pT CW)) (kC:keepIn K (.ref fC)=true) (bC:bV K fdC ["work"] []) (mC:mg "check_work"=some (.ref fC))
  (GB:aY P w K mg base (CXE P w) 5 fB fdB ["span","every","least"] (lV CB)) (kB:keepIn K (.ref fB)=true) (bB:bV K fdB ["span","every","least"] []) (mB:mg "check_bounds"=some (.ref fB)):aY P w K mg base (CXE P w) 6 f fd ["text"] (fun vs H Q E=>tY CN CW CB vs H Q E\/pK CN vs H Q E):=by
 refine F.okE pX (fun vs H Q E h=>?_) (fun cdv A outer s H vs Q E hr h=>?_)
 ·rcases h with ⟨t,rfl,_⟩|⟨v,rfl,_⟩ <;> rfl
 ·refine⟨_,aD (cB (dL (dX (aO bG (by rfl) G.isi Ls.boot_isi (aA (pv 0) (aA (gS (v:=.ty "str") (by rfl) G.str qW rfl) aB))))) (aI (dQ rfl TX.ex rfl TX.mB cR (aA aF aB))) aW)
   (aD (aN (i:=1) pX.nd rfl (Or.inl rfl) (aH GR hr rfl mR kR bR .nil aX (aA (pv 0) aB)))
   (aD (cB (dL (rW (pv 1) (fun _=>rfl))) (aI (dQ rfl TX.ex rfl TX.mB cR (aA aF aB))) aW)
   (aD (aN (i:=2) pX.nd rfl (Or.inl rfl) (aH GH hr rfl mH kH bH .nil (cS (E':=E) fun _ _ _ z=>z) (aA (aZ aR (pv 1) aC (fun _ _=>rfl)) aB)))
   (aD (aN (i:=3) pX.nd rfl (Or.inl rfl) (cF cN (by rfl) G.tuple eX (aA (sF (NB:=["row"]) (n:=1) (js:=[]) (cl:=[]) (g:=dS 0) rfl (by decide +kernel) (by decide +kernel) rfl
    (dZ.of rfl bE (all_cons (fun z=>nomatch z) (all_cons (fun z=>nomatch z) (all_cons (fun z=>nomatch z) bE))) rfl (fun k j h=>absurd h (by simp)) bE) (mJ (E':=E) fun _ _ _ z=>z) (iI (aQ bQ (pv 1) (aU aC) bI)) (fun C s H fp pn=>cC (i:=0) ndRo rfl (Or.inl rfl) (.inr rfl)) (fun C s H fp pn=>dF)
    (fun C s H fp pn=>aH GL hr rfl mL kL bL .nil (vY (E':=E) fun _ _ _ z=>z) (aA (pv 0) aB))) aB)))
   (aD (qE (aH GC hr rfl mC kC bC .nil (cS (E':=E) fun _ _ _ z=>z) (aA (aZ cK (pv 2) aC (fun _ _=>rfl)) aB)))
   (aD (qE (aH GB hr rfl mB kB bB .nil (cS (E':=E) fun _ _ _ z=>z) (aA (aZ cK (pv 2) aC (fun _ _=>rfl)) (aA (aZ cK (pv 2) aC (fun _ _=>rfl)) (aA (aZ cK (pv 2) aC (fun _ _=>rfl)) aB)))))
   (aI (aT (aK cU (pv 2) (bZ (aA (pv 3) aB))))))))))) ,?_⟩
  have sl:sizeLine=16777216:=sizeLine_eq
  have one:(1:Nat)<=sizeLine:=by rw [sl];omega
  rcases h with ⟨t,rfl,⟨tl,tr,tc⟩,q1,q2,q3,q4⟩|⟨v,rfl,hv,q⟩
  rotate_left
  ·obtain⟨ty,hty,e⟩:=yB (K:=K) hv
   exact⟨_,rfl,_,_,_,_,rfl,.ty "str",.inl ⟨ty,hty,e⟩,_,rfl,cZ ⟨one,q⟩⟩
  obtain⟨ty,hty,e⟩:=wX (K:=K) (H:=H) t
  refine⟨_,rfl,_,_,_,_,rfl,.ty "str",.inl ⟨ty,hty,e⟩,_,rfl,eM ?_⟩
  refine⟨_,rfl,t,rfl,by omega,fun lr H1 s1 e1=>?_⟩
  generalize rws t=rows at *
  cases rows with
  | nil=>exact⟨_,rfl,false,.inl ⟨_,SqL.of e1,rfl⟩,cZ ⟨one,q2 _ s1 fun ps a b c ls ⟨r0,rs,z,_⟩=>nomatch z⟩⟩
  | cons r0 rs=>
   have e1:H1 lr=some (.lst (.str r0::rs.map V.str)):=e1
   have o0:=tr r0 List.mem_cons_self
   have oR:∀r ∈ rs,Tm.okR 90000 r:=fun r hr=>tr r (List.mem_cons_of_mem _ hr)
   have tc:rs.length<=1000:=by rw [List.length_cons] at tc;omega
   refine⟨_,rfl,true,.inl ⟨_,SqL.of e1,rfl⟩,eM ?_⟩
   refine⟨_,rfl,lr,_,_,_,rfl,rfl,SqL.of e1,aJ (j:=0) rfl,r0,rfl,o0,fun ps a b c rh H2 s2 hG hAt=>?_,fun H2 s2 n=>q2 _ (s1.trans s2) fun ps a b c ls ⟨r0',rs',z,h,_⟩=>by cases z;exact n _ _ _ _ h⟩
   obtain⟨pw,eh,hw⟩:=hAt
   refine⟨_,rfl,_,rfl,lr,_,rfl,SqL.of (s2 _ _ e1),fun l3 h3=>?_⟩
   rw [jQ]
   obtain⟨H3,hh,s3,e3⟩:=Ls.alo h3 (.lst (rs.map V.str))
   rw [hh]
   have lm:(rs.map V.str).length=rs.length:=List.length_map ..
   refine⟨l3,rfl,⟨_,SqL.of e3⟩,fun acc hacc=>?_⟩
   refine⟨fun i m ys H'=>m=rs.length-i/\i<=rs.length/\(∃ls,Rl (rs.take i) ls/\Paired (LxV H') ys ls)/\aV H3 H'/\H' acc=some (.lst ys),⟨_,rfl,Nat.zero_le _,⟨[],.nil,.nil⟩,aG hacc,aE⟩,?_⟩
   rintro i m ys H' ⟨rfl,hi,⟨ls,hR,hP⟩,sm,hA⟩
   refine⟨hA,?_⟩
   have ly:ys.length=i:=by
    have h1:=hP.length
    have h2:=Paired.length hR
    rw [List.length_take] at h2
    omega
   by_cases hlt:i<rs.length
   ·refine .inr ⟨⟨_,_,SqL.of (sm _ _ e3),List.getElem?_eq_getElem (by omega)⟩,?_⟩
    rintro y H'' ⟨rfl,hy⟩
    have ey:=hy _ (SqL.of (sm _ _ e3))
    have ez:y=V.str rs[i]:=by
     rw [List.getElem?_map,List.getElem?_eq_getElem hlt] at ey
     exact(Option.some.inj ey).symm
    subst ez
    refine dC ?_
    refine⟨rfl,?_⟩
    refine dH ?_
    refine cZ ?_
    have mm:=List.getElem_mem hlt
    refine⟨_,rfl,rs[i],rfl,oR _ mm,fun l r4 H4 s4 gL h4=>?_,fun H4 s4 n=>q2 _ (s1.trans (s2.trans (s3.trans (sm.trans s4)))) fun ps a b c ls ⟨r0',rs',z,_,h⟩=>by
     cases z
     obtain⟨l,_,hl⟩:=fG h (List.getElem?_eq_getElem hlt)
     exact n l hl⟩
    have hA4:=s4 _ _ hA
    have kt:∀b zs,H4 b=some (.tup zs)->(upd H4 acc (.lst (ys++[.ref r4]))) b=some (.tup zs):=fun b zs e=>by
     rw [aP (oO e hA4 (by intro z;cases z))]
     exact e
    refine⟨hA4,by omega,_,?_,rfl,hlt,⟨ls++[l],?_,?_⟩,fun b o z=>?_,aE⟩
    ·omega
    ·rw [List.take_add_one,List.getElem?_eq_getElem hlt]
     exact dE hR gL
    ·exact dE (cA (fun v l ⟨b,z1,z2⟩=>⟨b,z1,(z2.same s4).tups kt⟩) hP) ⟨r4,rfl,h4.tups kt⟩
    ·rw [aP (aL z hacc)]
     exact s4 _ _ (sm _ _ z)
   refine .inl ⟨⟨_,SqL.of (sm _ _ e3),by omega⟩,?_⟩
   have ei:rs.take i=rs:=List.take_of_length_le (by omega)
   rw [ei] at hR
   have hT:TxG (r0::rs) ps a b c ls:=⟨r0,rs,rfl,hG,hR⟩
   refine⟨acc,_,rfl,.inl ⟨SqL.of hA,fun pl hpl=>?_⟩⟩
   obtain⟨H5,hh5,s5,e5⟩:=Ls.alo hpl (.tup ys)
   rw [hh5]
   have s25:aV H2 H5:=s3.trans (sm.trans s5)
   have s05:aV H H5:=s1.trans (s2.trans s25)
   have eh5:=s25 _ _ eh
   have hw5:=hw.same s25
   have pl0:ps.length<=100000:=hG.few (by have:=Tm.wds_cnt r0;have:=o0.1;omega)
   have wv:=yD hw5 pl0
   refine⟨_,rfl,rh,_,_,_,rfl,rfl,SqT.of eh5,aJ (j:=0) rfl,_,_,rfl,wv,fun c1=>?_,fun c1=>q3 _ _ _ _ _ _ s05 hT (wkB_f c1)⟩
   have c1:=nS.mp c1
   refine⟨_,rfl,rh,_,_,_,rfl,rfl,SqT.of eh5,aJ (j:=1) rfl,_,rfl,rh,_,_,_,rfl,rfl,SqT.of eh5,aJ (j:=2) rfl,_,rfl,rh,_,_,_,rfl,rfl,SqT.of eh5,aJ (j:=3) rfl,a,b,c,rfl,fun H6 s6 g1 g2 g3 g4=>?_,fun H6 s6 n=>q4 _ _ _ _ _ _ (s05.trans s6) hT c1 n⟩
   refine⟨_,rfl,_,rfl,by show 1<=sizeLine;decide,fun t7 h7=>?_⟩
   have s7:aV H6 (upd H6 t7 (.tup [.ref pl])):=aG h7
   refine⟨rh,t7,_,_,rfl,rfl,s7 _ _ (s6 _ _ eh5),aE,by show 4+1<=sizeLine;decide,fun r8 H8 s8 e8=>?_⟩
   have s58:=s6.trans (s7.trans s8)
   exact q1 _ _ _ _ _ r8 H8 (s05.trans s58) hT c1 ⟨g1,g2,g3,g4⟩ ⟨pw,pl,ys,e8,hw5.same s58,s58 _ _ e5,cA (fun _ _ z=>z.same (s5.trans s58)) hP⟩
end
end Lt
namespace L2
open PySem PySem.Spec PyProof.Rows PySem.W
section
variable {X:Cx}
def rStrip:V->List V->Hp->VK->Prop:=fun x vs H Q=>∃z y,x=.str z/\vs=[.str y]/\z.length<=sizeLine/\Q (.str (Txt.stripChars z y)) H
theorem zW:MtM X "str.strip" rStrip:=by
 intro pins s σ H x vs v us Q I rx rv h
 obtain⟨z,y,rfl,rfl,hz,q⟩:=h
 obtain⟨t,rfl⟩:=rx
 obtain⟨u,rfl,t',rfl⟩:=rv.one
 exact SC.stripChars (fun t' k=>⟨.str _,H,I.tok _,⟨_,rfl⟩,q⟩) hz
theorem nZ {goes:Nat->Bool}:∀{l:List Nat},l.all goes=true->l.takeWhile goes=l
 | [],_=>rfl
 | a::l,h=>by
  rw [List.all_cons,Bool.and_eq_true] at h
  rw [List.takeWhile_cons,if_pos h.1,nZ h.2]
theorem iX {goes:Nat->Bool}:∀{l:List Nat},l.all goes=false->∃a b r,l=a++b::r/\goes b=false/\(l.takeWhile goes).length=a.length
 | [],h=>by cases h
 | a::l,h=>by
  cases c:goes a with
  | false=>exact⟨[],a,l,rfl,c,by rw [List.takeWhile_cons,if_neg (by rw [c];exact Bool.noConfusion)]⟩
  | true=>
   rw [List.all_cons,c,Bool.true_and] at h
   obtain⟨x,b,r,h1,h2,h3⟩:=iX h
   refine⟨a::x,b,r,by rw [h1];rfl,h2,?_⟩
   rw [List.takeWhile_cons,if_pos c,List.length_cons,h3,List.length_cons]
theorem rK (z y:Str):decide (Txt.stripChars z y=Str.empty)=(z.cps.toList).all fun c=>y.cps.contains c:=by
 generalize hg:(fun c=>y.cps.contains c)=goes
 have e:Txt.stripChars z y=Txt.stripBy goes true true z:=by rw [<- hg];rfl
 rw [e,PyProof.Rows.stripBy_eq]
 have ex:∀lo hi,Builtin.Str.strSub z lo hi=Str.empty↔(min hi z.length)-lo=0:=fun lo hi=>by
  unfold Builtin.Str.strSub
  constructor
  ·intro h
   have h:=congrArg (fun s:Str=>s.cps.size) h
   have h:(z.cps.extract lo hi).size=0:=h
   rw [Array.size_extract] at h
   exact h
  ·intro h
   have:(z.cps.extract lo hi).size=0:=by
    rw [Array.size_extract]
    exact h
   exact congrArg Str.mk (Array.size_eq_zero_iff.mp this)
 have zl:z.cps.toList.length=z.length:=Array.length_toList
 cases c:z.cps.toList.all goes with
 | true=>
  refine decide_eq_true ((ex _ _).mpr ?_)
  have lo:PySem.stripLo goes true z=z.length:=by
   unfold PySem.stripLo
   rw [if_pos rfl,nZ c,zl]
  rw [lo]
  omega
 | false=>
  refine decide_eq_false fun h=>?_
  have h:=(ex _ _).mp h
  obtain⟨a,b,r,h1,h2,h3⟩:=iX c
  have lo:PySem.stripLo goes true z=a.length:=by
   unfold PySem.stripLo
   rw [if_pos rfl,h3]
  have hd:(z.cps.toList.drop a.length)=b::r:=by rw [h1,List.drop_left]
  have nl:((b::r).reverse.takeWhile goes).length<=r.length:=by
   have:(b::r).reverse.all goes=false:=by
    rw [List.all_reverse,List.all_cons,h2,Bool.false_and]
   obtain⟨x,b',r',k1,k2,k3⟩:=iX this
   have:=congrArg List.length k1
   rw [List.length_reverse,List.length_append,List.length_cons,List.length_cons] at this
   omega
  have tl:z.length=a.length+(r.length+1):=by rw [<- zl,h1,List.length_append,List.length_cons]
  rw [lo] at h
  unfold PySem.stripHi at h
  rw [if_pos rfl,hd] at h
  omega
def evs {α:Type}:List α->List α
 | []=>[]
 | [a]=>[a]
 | a::_::r=>a::evs r
theorem wP {α:Type}:∀us:List α,(evs us).length<=us.length
 | []=>Nat.le_refl _
 | [a]=>Nat.le_refl _
 | a::b::r=>by
  have:=wP r
  show (evs r).length+1<=r.length+1+1
  omega
theorem rE:∀{xs:List V} {us:List Value},bY xs us->bY (evs xs) (evs us)
 | _,_,.nil=>.nil
 | _,_,.cons r .nil=>.cons r .nil
 | _,_,.cons r (.cons _ t)=>.cons r (rE t)
theorem rZ {α:Type}:∀(us pre:List α),(((List.range ((us.length+1) / 2)).map fun j=>pre.length+2 * j).filterMap fun x=>(pre++us)[x]?)=evs us
 | [],pre=>by
  rw [show ((([]:List α).length+1) / 2)=0 by simp]
  rfl
 | [a],pre=>by
  rw [show (([a].length+1) / 2)=1 by simp]
  show List.filterMap (fun x=>(pre++[a])[x]?) [pre.length+2 * 0]=[a]
  simp
 | a::b::r,pre=>by
  have ih:=rZ r (pre++[a,b])
  rw [show ((a::b::r).length+1) / 2=(r.length+1) / 2+1 by simp;omega,List.range_succ_eq_map,List.map_cons,List.map_map,List.filterMap_cons]
  have e0:(pre++a::b::r)[pre.length+2 * 0]?=some a:=by simp
  rw [e0]
  show a::_=a::evs r
  rw [<- ih,List.append_assoc]
  congr 2
  refine List.map_congr_left fun j _=>?_
  show pre.length+2 * (j+1)=(pre++[a,b]).length+2 * j
  rw [List.length_append]
  show _=pre.length+2+2 * j
  omega
theorem nL {pre us:List Value} {k:Nat} (h:us.length=k) (h1:1<=k):slicePick (pre++us).toArray (some (-(k:Int))) none (some 2)=(evs us).toArray:=by
 unfold slicePick
 have hb:sliceBounds (some (-(k:Int))) none (some 2) (pre++us).toArray.size=((pre.length:Int),((pre.length+k:Nat):Int),2):=by
  rw [List.size_toArray,List.length_append,h]
  unfold sliceBounds
  simp only [Option.getD_some,show (2:Int) > 0 by decide,if_true]
  rw [if_pos (by omega)]
  refine Prod.ext ?_ rfl
  show max 0 (min (-(k:Int)+((pre.length+k:Nat):Int)) ((pre.length+k:Nat):Int))=(pre.length:Int)
  omega
 rw [hb]
 congr 1
 show List.filterMap _ (sliceRange (pre.length:Int) ((pre.length+k:Nat):Int) 2)=_
 rw [<- rZ us pre]
 have hr:sliceRange (pre.length:Int) ((pre.length+k:Nat):Int) 2=(List.range ((us.length+1) / 2)).map fun j=>pre.length+2 * j:=by
  unfold sliceRange
  simp only [show (2:Int) > 0 by decide,if_true]
  rw [if_pos (by omega)]
  have:((((pre.length+k:Nat):Int)-(pre.length:Int)+2-1) / 2).toNat=(us.length+1) / 2:=by omega
  rw [this]
  refine List.map_congr_left fun j _=>?_
  omega
 rw [hr]
 congr 1
 funext x
 simp
def tSl2 (K:Frag) (te tl ts:TE):TE:=fun σ H Q=>te σ H fun x H1=>vK tl σ H1 fun lo H2=>vK ts σ H2 fun so H3=>∃a pre us k,x=.ref a/\lo=some (-((k:Nat):Int))/\so=some 2/\SqL K H3 a (pre++us)/\us.length=k/\1<=k/\∀p,H3 p=none->Q (.ref p) (upd H3 p (.lst (evs us)))
theorem lN:∀{xs ys:List V} {us:List Value},bY (xs++ys) us->∃a b,us=a++b/\bY xs a/\bY ys b
 | [],ys,us,h=>⟨[],us,rfl,.nil,h⟩
 | x::xs,ys,_,.cons r t=>by
  obtain⟨a,b,e,h1,h2⟩:=lN t
  exact⟨_::a,b,by rw [e];rfl,.cons r h1,h2⟩
theorem oJ {e l st:Expr} {te tl ts:TE} {p2 pos:Pos} (he:PE X e te) (hl:PE X l tl) (hs:PE X st ts) (ht:∀o r:Value,letTemporaryGo e o r=pure ():=by intros;rfl):PE X (.Subscript e (.Slice (some l) none (some st) p2) pos) (tSl2 X.K te tl ts):=by
 intro pins s σ H Q I h
 refine wpAny_Subscript_Slice_step (T:="list") slot_list_getitem.lookup (thn (he s σ H _ I h) fun v s1 ⟨x,H1,I1,r1,q1⟩=>?_) ht
 refine wpAny_Slice (thn (aU hl pins s1 σ H1 _ I1 q1) fun vl s2 ⟨lo,H2,I2,pl,q2⟩=>?_)
 rw [evalPart_none]
 refine wpAny_pure (thn (aU hs pins s2 σ H2 _ I2 q2) fun vs s3 ⟨so,H3,I3,ps,q3⟩=>?_)
 obtain⟨a,pre,us,k,rfl,rfl,rfl,hx,hk,h1,q⟩:=q3
 cases r1
 have I4:Inv X pins σ H3 { s3 with heap:=s3.heap.push { cls:=.type "slice",data:=.fields #[vl,.none,vs] } }:=I3.kept (t':=s3.toks) fun b ob q=>Heap.get?_push_of_some _ q
 obtain⟨its,r,hti,hz⟩:=I4.list hx
 obtain⟨pI,uI,rfl,r1,r2⟩:=lN r
 refine⟨hti.isList.typeIs,?_⟩
 refine wpAny_getItem_list_slice hti.isList (Heap.IsSliceOf.new ..) pl .none ps (by simp) ?_ (by rw [List.size_toArray,<- r.length];omega)
 rw [nL (by rw [<- r2.length];exact hk) h1]
 refine⟨.ref _,_,I4.laid (t':=s3.toks) (o:=.lst (evs us)) (fun b ob q=>Heap.get?_push_of_some _ q) (Nat.le_refl _) ?_,rfl,q _ (I4.hok.fresh (Nat.le_refl _))⟩
 refine⟨?_,_,0,rE r2,Heap.get?_push_size _ rfl⟩
 have:=wP us
 rw [List.length_append] at hz
 omega
def kU (z:Str) (k:Nat):Str:=⟨List.foldl (fun x1 x2=>x1++x2) #[] (List.replicate k z.cps)⟩
theorem yN (z:Str):∀(k:Nat) (a:Array Nat),(List.foldl (fun x1 x2=>x1++x2) a (List.replicate k z.cps)).toList=a.toList++(List.replicate k z.cps.toList).flatten
 | 0,a=>by simp
 | k+1,a=>by
  rw [List.replicate_succ,List.foldl_cons,yN z k,Array.toList_append,List.replicate_succ,List.flatten_cons,List.append_assoc]
theorem repS_sg (z:Str) (k:Nat):(kU z k).cps.toList=(List.replicate k z.cps.toList).flatten:=by
 unfold kU
 rw [yN z k #[]]
 rfl
theorem rQ (z:Str) (k:Nat):(kU z k).length=k * z.length:=by
 have e:=congrArg List.length (repS_sg z k)
 rw [wH] at e
 exact e
theorem qJ:OpR X (binaryOp .Mult) (fun x y H Q=>∃(z:Str) (k:Nat),x=.str z/\y=.int k/\2<=k/\k<=100/\z.length=1/\Q (.str (kU z k)) H):=by
 intro pins s σ H x y v u Q I rx ry h
 obtain⟨z,k,rfl,rfl,h1,h2,h3,q⟩:=h
 obtain⟨t,rfl⟩:=rx
 obtain⟨t',rfl⟩:=ry
 refine PySem.P.mul_str (by rw [decide_eq_false (by omega),decide_eq_false (by omega)];rfl) (fun _ _=>?_) (fun _ _=>?_) ?_
 ·rw [h3]
  have:(2 ^ 63-1) / (k:Int) ≥ 1:=(Int.le_ediv_iff_mul_le (by omega)).mpr (by omega)
  omega
 ·rw [h3]
  have:sizeLine=16777216:=sizeLine_eq
  exact decide_eq_false (by omega)
 ·rw [if_neg (by omega),if_neg (by rw [h3];simp;omega)]
  rw [show ((k:Int)).toNat=k by omega]
  show Made.post (Made.str (kU z k)) _ _
  have ln:(kU z k).length<=sizeLine:=by
   have:sizeLine=16777216:=sizeLine_eq
   rw [rQ,h3]
   omega
  exact⟨ln,.str _,H,I.tok _,⟨_,rfl⟩,q⟩
theorem best3 (a b c:Int):([a,b,c].getD (argBest (fun i j=>decide ([a,b,c].getD i 0<[a,b,c].getD j 0)) (3-1)) 0=a\/[a,b,c].getD (argBest (fun i j=>decide ([a,b,c].getD i 0<[a,b,c].getD j 0)) (3-1)) 0=b\/[a,b,c].getD (argBest (fun i j=>decide ([a,b,c].getD i 0<[a,b,c].getD j 0)) (3-1)) 0=c) /\
  [a,b,c].getD (argBest (fun i j=>decide ([a,b,c].getD i 0<[a,b,c].getD j 0)) (3-1)) 0<=a/\[a,b,c].getD (argBest (fun i j=>decide ([a,b,c].getD i 0<[a,b,c].getD j 0)) (3-1)) 0<=b/\[a,b,c].getD (argBest (fun i j=>decide ([a,b,c].getD i 0<[a,b,c].getD j 0)) (3-1)) 0<=c:=by
 have e:argBest (fun i j=>decide ([a,b,c].getD i 0<[a,b,c].getD j 0)) (3-1)=if c<(if b<a then b else a) then 2 else if b<a then 1 else 0:=by
  simp only [argBest]
  by_cases h1:b<a
  ·simp [h1]
  ·simp [h1]
 rw [e]
 by_cases h1:b<a
 ·rw [if_pos h1]
  by_cases h2:c<b
  ·rw [if_pos h2];refine⟨.inr (.inr rfl),?_⟩;show c<=a/\c<=b/\c<=c;omega
  ·rw [if_neg h2,if_pos h1];refine⟨.inr (.inl rfl),?_⟩;show b<=a/\b<=b/\b<=c;omega
 ·rw [if_neg h1]
  by_cases h2:c<a
  ·rw [if_pos h2];refine⟨.inr (.inr rfl),?_⟩;show c<=a/\c<=b/\c<=c;omega
  ·rw [if_neg h2,if_neg h1];refine⟨.inl rfl,?_⟩;show a<=a/\a<=b/\a<=c;omega
theorem yA (hc:X.calm=true):eF X (.builtin "min") (fun xs H Q=>∃(t:Addr) (a b c:Int),xs=[.ref t]/\SqT X.K H t [.int a,.int b,.int c]/\∀m,(m=a\/m=b\/m=c)->m<=a->m<=b->m<=c->Q (.int m) H):=by
 intro pins s σ H xs us Q I r h
 obtain⟨t,a,b,c,rfl,hq,q⟩:=h
 obtain⟨u,rfl,rfl⟩:=gY r
 obtain⟨its,rv,p,hz⟩:=I.tuple hq
 obtain⟨u1,us',rfl,⟨t1,rfl⟩,r'⟩:∃u us',its=u::us'/\cJ (.int a) u/\bY [.int b,.int c] us':=by
  cases rv with
  | cons r1 r2=>exact⟨_,_,rfl,r1,r2⟩
 obtain⟨u2,u3,rfl,⟨t2,rfl⟩,⟨t3,rfl⟩⟩:=vH r'
 have p:s.heap.IsTuple t #[.int a t1,.int b t2,.int c t3]:=p
 refine call_min_walk (wpAny_pyIter_tuple p ?_)
 have lt:t<s.heap.objs.size:=by
  obtain⟨o,ho,_⟩:=p
  exact Heap.lt_size ho
 have val:∀(i:Nat) (v:Value),(#[Value.int a t1,.int b t2,.int c t3])[i]?=some v->∃tk,v=.int ([a,b,c].getD i 0) tk:=fun i v e=>by
  obtain⟨hi,e⟩:=Array.getElem?_eq_some_iff.mp e
  have hi:i<3:=hi
  obtain rfl|rfl|rfl:i=0\/i=1\/i=2:=by omega
  ·exact⟨t1,e.symm⟩
  ·exact⟨t2,e.symm⟩
  ·exact⟨t3,e.symm⟩
 have W:=Walks.tuple (prog:=X.prog) (w:=X.w) (A:=X.A.in1) (I.ok.hd hc) s.heap.objs.size t (Nat.ne_of_lt lt) #[Value.int a t1,.int b t2,.int c t3]
 refine⟨s.heap.objs.size,[s.heap.objs.size,t],[s.heap.objs.size],3,_,_,fun i j=>decide ([a,b,c].getD i 0<[a,b,c].getD j 0),rfl,W,⟨⟨_,Heap.get?_push_size _ rfl,rfl,rfl⟩,(by obtain⟨o,ho,hr⟩:=p;exact⟨o,Heap.get?_push_of_some _ ho,hr⟩)⟩,?_,by decide,CmpOf.ints_lt (fun i=>[a,b,c].getD i 0) val,fun v h' tk hv keep=>?_⟩
 ·intro b' hb
  have e:(s.heap.push { cls:=Value.type "tuple_iterator",data:=Data.fields #[Value.ref t,Value.int 0 0] }).objs.size=s.heap.objs.size+1:=Array.size_push _
  rw [e]
  simp only [List.mem_cons,List.not_mem_nil,or_false] at hb
  rcases hb with rfl|rfl
  ·exact Nat.lt_succ_self _
  ·exact Nat.lt_succ_of_lt lt
 ·obtain⟨tk',rfl⟩:=val _ _ hv
  have I':Inv X pins σ H { s with heap:=h',toks:=tk }:=I.kept fun b o e=>keep b o (by simpa using Nat.ne_of_lt (Heap.lt_size e)) (Heap.get?_push_of_some _ e)
  have hb:=best3 a b c
  generalize [a,b,c].getD (argBest (fun i j=>decide ([a,b,c].getD i 0<[a,b,c].getD j 0)) (3-1)) 0=m at hb ⊢
  exact⟨.int m,H,I',⟨_,rfl⟩,q m hb.1 hb.2.1 hb.2.2.1 hb.2.2.2⟩
end
end L2
namespace Lt
open PySem L2 PySem.W
theorem xC (x:Str):decide (V.str (Txt.slice x none (some 1))=V.str ⟨#[45]⟩)=decide ((Tm.sg x).head?=some 45):=by
 cases h:Tm.sg x with
 | nil=>
  have e:x=⟨#[]⟩:=Tm.sg_ext h
  rw [e]
  decide +kernel
 | cons a r=>
  have l:=Tm.sg_len x
  rw [h,List.length_cons] at l
  have s:=StrLaws.sliceText_to (x:=x) (j:=1) ⟨by decide,by rw [show x.cps.toList=a::r from h,List.length_cons];omega⟩
  have e2:Tm.sg (Txt.slice x none (some 1))=[a]:=by
   rw [show Txt.slice x none (some 1)=_ from s]
   show (x.cps.toList.drop 0).take (1-0:Int).toNat=_
   rw [show x.cps.toList=a::r from h]
   rfl
  refine decide_eq_decide.mpr ⟨fun z=>?_,fun z=>?_⟩
  ·have:=congrArg Tm.sg (V.str.inj z)
   rw [e2] at this
   show some a=some 45
   rw [(List.cons.inj this).1]
  ·have z:a=45:=Option.some.inj z
   exact congrArg V.str (Tm.sg_ext (by rw [e2,z];rfl))
noncomputable def nv (x:Str):V:=if cQ x=true then .int (cL x) else .non
theorem nv_t {x:Str} (h:cQ x=true):nv x=.int (cL x):=if_pos h
theorem nv_f {x:Str} (h:cQ x=false):nv x=.non:=if_neg (by rw [h];exact Bool.noConfusion)
def lU:Sp:=fun vs H Q _=>∃x:Str,vs=[.str x]/\Tm.okS 100000 x/\Q (nv x) H
theorem dig_is (c:Nat):(Str.ofString "0123456789").cps.contains c=Tm.dig c:=by
 have e:(Str.ofString "0123456789")=⟨#[48,49,50,51,52,53,54,55,56,57]⟩:=by decide +kernel
 rw [e]
 unfold Tm.dig
 by_cases h:48<=c/\c<=57
 ·rw [decide_eq_true h.1,decide_eq_true h.2]
  obtain⟨d,hd,rfl⟩:∃d,d<10/\c=48+d:=⟨c-48,by omega,by omega⟩
  have:∀d:Fin 10,(#[48,49,50,51,52,53,54,55,56,57]:Array Nat).contains (48+d.val)=true:=by decide +kernel
  exact this ⟨d,hd⟩
 ·have:(decide (48<=c) && decide (c<=57))=false:=by
   refine Bool.eq_false_iff.mpr fun z=>h ?_
   rw [Bool.and_eq_true,decide_eq_true_eq,decide_eq_true_eq] at z
   exact z
  rw [this]
  refine Bool.eq_false_iff.mpr fun z=>h ?_
  simp at z
  omega
section
variable {P:Program} {w:World} {K:PySem.W.Frag} {mg:Str->Option Value} {base:Heap}
theorem yI:bO ["_law_word_here","_law_figures"] ["_law_word_here"] (aM sLNum):=⟨rfl,rfl,rfl,by decide +kernel,rfl,by decide +kernel,by decide +kernel⟩
theorem ok_lnum {f:Addr} {fd:FuncData} (F:Fun K "_law_number" "_law_number" sLNum f fd) (G:Gb mg):aY P w K mg base CX0 1 f fd ["_law_word_here"] lU:=by
 refine F.ok yI (fun vs H Q E h=>?_) (fun cdv A outer s H vs Q E hr h=>?_)
 ·obtain⟨i,rfl,_⟩:=h
  rfl
 ·obtain⟨x,rfl,hx,q⟩:=h
  refine⟨_,aD (aN (i:=1) yI.nd rfl (Or.inl rfl) (aQ lY (pv 0) (aU (cF gO (by rfl) G.int gU (aA (dN dB (aQ lY (pv 0) bI (aU aC)) aF (bF _)) aB))) bI))
   (aD (cB (PW.pt (gE (dL (rX wB wB aC (aO jS (by rfl) G.len PySem.boot_len (aA (pv 1) aB)) aC)) (eT (aS kK (fU PySem.F.plainAttrs_str PySem.F.slot_str_strip PySem.F.type_str_strip zW (pv 1) (aA aF aB)) aF (bF _))))) (aI (aT eU)) aW)
   (aD (cB (PW.pt (jY (aS dB (aZ AaF (pv 1) aC (fun _ _=>rfl)) aF (bF _)) (iH (aS kK (pv 0) aF (bF _))))) (aI (aT eU)) aW)
   (aI (aT (cF pA (by rfl) G.int gU (aA (pv 0) aB)))))),?_⟩
  have sl:sizeLine=16777216:=sizeLine_eq
  have xl:=hx.1
  have key:∀y:Str,Tm.sg y=Tm.figs (Tm.sg x)->y.length<=x.length->(decide (1<=y.length) && decide (y.length<=18) && (Tm.sg y).all Tm.dig && (!decide ((Tm.sg y).head?=some 48) || decide (Tm.sg x=[48])))=cQ x:=fun y hy hl=>by
   have ly:y.length=(Tm.figs (Tm.sg x)).length:=by rw [<- hy,Tm.sg_len]
   unfold cQ Tm.isN
   rw [hy,ly]
  refine⟨_,rfl,_,rfl,_,rfl,_,rfl,by omega,rfl,.inr ⟨_,rfl,_,rfl,?_⟩⟩
  rw [c45,xC]
  obtain⟨y,hy,hyl,hsl⟩:∃y:Str,Tm.sg y=Tm.figs (Tm.sg x)/\y.length<=x.length/\Txt.slice x (some (if decide ((Tm.sg x).head?=some 45)=true then 1 else 0)) none=y:=by
   refine⟨_,?_,?_,rfl⟩
   ·by_cases c:(Tm.sg x).head?=some 45
    ·rw [if_pos (decide_eq_true c)]
     have l1:1<=x.length:=by
      rw [<- Tm.sg_len]
      cases z:Tm.sg x with
      | nil=>rw [z] at c;cases c
      | cons a r=>rw [List.length_cons];omega
     refine(Tm.slice_from (i:=1) l1).trans ?_
     unfold Tm.figs
     rw [if_pos c]
     cases Tm.sg x <;> rfl
    ·rw [if_neg (fun z=>c (of_decide_eq_true z))]
     refine(Tm.slice_from (i:=0) (Nat.zero_le _)).trans ?_
     unfold Tm.figs
     rw [if_neg c]
     rfl
   ·exact Txt.slice_le x _ _
  refine⟨x,rfl,by omega,?_⟩
  rw [hsl]
  have eI:=key y hy hyl
  refine⟨_,rfl,_,rfl,by omega,_,_,rfl,rfl,_,rfl,?_⟩
  refine cI (fun h1=>?_) (fun h1=>?_)
  rotate_left
  ·have e:decide (1<=y.length)=false:=decide_eq_false fun z=>h1 (decide_eq_true (by omega))
   rw [e] at eI
   rw [nv_f eI.symm] at q
   exact⟨_,rfl,cZ (cZ q)⟩
  refine⟨_,_,rfl,rfl,_,rfl,?_⟩
  have h1:1<=y.length:=by have:=of_decide_eq_true h1;omega
  refine cI (fun h2=>?_) (fun h2=>?_)
  ·have h2:¬ (y.length<=18):=fun z=>by
    rw [decide_eq_true (by omega)] at h2
    cases h2
   rw [decide_eq_false h2,Bool.and_false,Bool.false_and,Bool.false_and] at eI
   rw [nv_f eI.symm] at q
   exact cZ q
  have h2:y.length<=18:=by
   by_cases z:y.length<=18
   ·exact z
   ·rw [decide_eq_false (by omega)] at h2
    exact absurd rfl h2
  rw [decide_eq_true h1,decide_eq_true h2,Bool.true_and,Bool.true_and] at eI
  refine⟨_,rfl,rfl,_,_,rfl,rfl,by omega,rfl,_,rfl,?_⟩
  have es:decide (V.str (Txt.stripChars y (Str.ofString "0123456789"))=V.str (Str.ofString ""))=(Tm.sg y).all Tm.dig:=by
   have e0:=rK y (Str.ofString "0123456789")
   have e1:(y.cps.toList.all fun c=>(Str.ofString "0123456789").cps.contains c)=(Tm.sg y).all Tm.dig:=by
    congr 1
    funext c
    exact dig_is c
   rw [<- e1,<- e0]
   refine decide_eq_decide.mpr ⟨fun z=>V.str.inj z,fun z=>congrArg V.str z⟩
  rw [es]
  cases hd:(Tm.sg y).all Tm.dig with
  | false=>
   rw [hd,Bool.false_and] at eI
   rw [nv_f eI.symm] at q
   exact cZ q
  | true=>
   rw [hd,Bool.true_and] at eI
   refine eM ?_
   obtain⟨c,r,hcr⟩:∃c r,Tm.sg y=c::r:=by
    cases z:Tm.sg y with
    | nil=>rw [<- Tm.sg_len,z] at h1;exact absurd h1 (by decide)
    | cons c r=>exact⟨c,r,rfl⟩
   refine⟨_,rfl,_,_,c,rfl,rfl,by omega,aJ (j:=0) (by rw [show y.cps.toList=Tm.sg y from rfl,hcr];rfl),rfl,_,rfl,?_⟩
   rw [hcr] at eI
   rw [c48]
   by_cases e:c=48
   ·refine jE (by rw [e];simp) ⟨_,rfl,rfl,_,rfl,?_⟩
    subst e
    have eq:decide (V.str x=V.str ⟨#[48]⟩)=decide (Tm.sg x=[48]):=by
     refine decide_eq_decide.mpr ⟨fun z=>by rw [V.str.inj z];rfl,fun z=>?_⟩
     rw [Tm.sg_ext (a:=x) (b:=⟨#[48]⟩) z]
    rw [eq]
    have eI:decide (Tm.sg x=[48])=cQ x:=by simpa using eI
    rw [eI]
    cases hI:cQ x with
    | false=>rw [nv_f hI] at q;exact cZ q
    | true=>
     rw [nv_t hI] at q
     have:=mZ hI
     exact eM ⟨_,rfl,_,_,rfl,iE hI,by omega,q⟩
   ·have hI:cQ x=true:=by rw [<- eI];simp [e]
    rw [nv_t hI] at q
    have:=mZ hI
    exact fY (by simp [e]) (eM ⟨_,rfl,_,_,rfl,iE hI,by omega,q⟩)
theorem kI (ws:List Str):inV (.str "") (ws.map V.str)=true↔¬ (∀u ∈ ws,1<=u.length):=by
 unfold inV
 rw [List.any_eq_true]
 constructor
 ·rintro⟨v,hv,e⟩ al
  obtain⟨u,hu,rfl⟩:=List.mem_map.mp hv
  have e:u=Str.ofString "":=by simpa [eqV] using e
  have:=al u hu
  rw [e] at this
  exact absurd this (by decide +kernel)
 ·intro h
  have:∃u ∈ ws,¬ 1<=u.length:=by
   refine Classical.byContradiction fun z=>h fun u hu=>Classical.byContradiction fun y=>z ⟨u,hu,y⟩
  obtain⟨u,hu,n⟩:=this
  refine⟨.str u,List.mem_map.mpr ⟨u,hu,rfl⟩,?_⟩
  have e:u=Str.ofString "":=Tm.sg_ext (by
   have:(Tm.sg u).length=0:=by rw [Tm.sg_len];omega
   rw [List.length_eq_zero_iff.mp this]
   decide +kernel)
  simp [eqV,e]
theorem jN (ws:List Str):inV .non (ws.map nv)=true↔¬ (∀u ∈ ws,cQ u=true):=by
 unfold inV
 rw [List.any_eq_true]
 constructor
 ·rintro⟨v,hv,e⟩ al
  obtain⟨u,hu,rfl⟩:=List.mem_map.mp hv
  rw [nv_t (al u hu)] at e
  cases e
 ·intro h
  have:∃u ∈ ws,¬ cQ u=true:=by
   refine Classical.byContradiction fun z=>h fun u hu=>Classical.byContradiction fun y=>z ⟨u,hu,y⟩
  obtain⟨u,hu,n⟩:=this
  refine⟨nv u,List.mem_map.mpr ⟨u,hu,rfl⟩,?_⟩
  rw [nv_f (Bool.eq_false_iff.mpr n)]
  rfl
theorem eqv3 (a b c a' b' c':Str):PyData.eqv (.list [.str a,.str b,.str c]) (.list [.str a',.str b',.str c'])=decide (a=a'/\b=b'/\c=c'):=by
 have e:PyData.eqv (.list [.str a,.str b,.str c]) (.list [.str a',.str b',.str c'])=true↔(a=a'/\b=b'/\c=c'):=by
  simp [PyData.eqv,PyData.eqvAll]
 by_cases h:a=a'/\b=b'/\c=c'
 ·rw [decide_eq_true h];exact e.mpr h
 ·rw [decide_eq_false h];exact Bool.eq_false_iff.mpr fun z=>h (e.mp z)
theorem xZ {xs ys:List V} (h:ys.length=3):cY (xs++ys) (some (-3)) none=ys:=by
 unfold cY
 have hl:(xs++ys).length=xs.length+3:=by rw [List.length_append,h]
 rw [hl]
 have e1:HT.sIx (xs.length+3) 0 (some (-3))=xs.length:=by
  simp only [HT.sIx]
  rw [if_pos (by decide)]
  omega
 rw [e1,List.drop_left]
 exact List.take_of_length_le (by rw [HT.sIx_none,h];omega)
theorem sY (ws:List Str):(ws.map V.str).all iV=true:=by
 rw [List.all_eq_true]
 intro v hv
 obtain⟨u,_,rfl⟩:=List.mem_map.mp hv
 rfl
theorem wN (ws:List Str):(ws.map nv).all iV=true:=by
 rw [List.all_eq_true]
 intro v hv
 obtain⟨u,_,rfl⟩:=List.mem_map.mp hv
 unfold nv
 split <;> rfl
theorem zS {ws:List Str} (h:∀u ∈ ws,cQ u=true):ws.map nv=(cG ws).map V.int:=by
 unfold cG
 rw [List.map_map]
 exact List.map_congr_left fun u hu=>nv_t (h u hu)
def LHAt (H:Hp) (r:Addr) (ps:List (Int × Int)) (a b c:Int):Prop:=∃pw pl,H r=some (.tup [.ref pw,.ref pl])/\Ls.WorkM H pw ps/\H pl=some (.tup [.int a,.int b,.int c])
def lB:Sp:=fun vs H Q _=>∃x:Str,vs=[.str x]/\Tm.okR 90000 x/\(∀ps a b c r H',aV H H'->HdG (Tm.wds x) ps a b c->LHAt H' r ps a b c->Q (.ref r) H')/\(∀H',aV H H'->(∀ps a b c,¬ HdG (Tm.wds x) ps a b c)->Q .non H')
theorem ndLW:(["_law_word_here"]:List Str).Nodup:=by decide +kernel
theorem ndKN:(["_law_k","_law_numbers"]:List Str).Nodup:=by decide +kernel
theorem lE:bO ["_law_row","_law_words","_law_numbers","_law_pairs"] ["_law_row"] (aM uN):=⟨rfl,rfl,rfl,by decide +kernel,rfl,by decide +kernel,by decide +kernel⟩
theorem zN {f fN:Addr} {fd fdN:FuncData} (F:Fun K "_law_head_of" "_law_head_of" uN f fd) (G:Gb mg) (GN:aY P w K mg base CX0 1 fN fdN ["_law_word_here"] lU) (kN:keepIn K (.ref fN)=true) (bN:bV K fdN ["_law_word_here"] []) (mN:mg "_law_number"=some (.ref fN)):aY P w K mg base CX0 2 f fd ["_law_row"] lB:=by
 refine F.ok lE (fun vs H Q E h=>?_) (fun cdv A outer s H vs Q E hr h=>?_)
 ·obtain⟨i,rfl,_⟩:=h
  rfl
 ·obtain⟨x,rfl,hx,q1,q2⟩:=h
  refine⟨_,aD (aN (i:=1) lE.nd rfl (Or.inl rfl) (fU PySem.F.plainAttrs_str PySem.F.slot_str_split PySem.F.type_str_split gJ (pv 0) (aA aF aB)))
   (aD (cB (PW.pt (gE (aS iK aF (pv 1) (by rfl)) (gE (aS iT (aO bJ (by rfl) G.len PySem.boot_len (aA (pv 1) aB)) aC (bF _)) (gE (aS dB (aK iA (aO bJ (by rfl) G.len PySem.boot_len (aA (pv 1) aB)) aC) aC (bF _))
     (eT (aS kK (aZ aR (pv 1) aC (fun _ _=>rfl)) aF (bF _))))))) (aI (aT eU)) aW)
   (aD (aN (i:=2) lE.nd rfl (Or.inr rfl) (eP (NB:=["_law_word_here"]) (n:=1) (js:=[]) (cl:=[]) (g:=dS 0) rfl (by decide +kernel) (by decide +kernel) rfl
     (dZ.of rfl bE (all_cons (fun z=>nomatch z) (all_cons (fun z=>nomatch z) (all_cons (fun z=>nomatch z) bE))) rfl (fun k j h=>absurd h (by simp)) bE)
     (iI (aK cE (aQ bQ (pv 1) (aU aC) (aU (fT dW aC))) (oJ (pv 1) (fT dW aC) aC))) (fun C s H fp pn=>cC (i:=0) ndLW rfl (Or.inl rfl) (.inr rfl)) (fun C s H fp pn=>dF)
     (fun C s H fp pn=>aH GN hr rfl mN kN bN .nil aX (aA (pv 0) aB))))
   (aD (cB (PW.pt (gE (aS (uW hr.units) (oJ (pv 1) (fT dW aC) aC) (bU (aA aF (aA aF (aA aF aB)))) (bF _)) (eT (aS iK eU (pv 2) (by rfl))))) (aI (aT eU)) aW)
   (aD (aN (i:=3) lE.nd rfl (Or.inl rfl) (cF cN (by rfl) G.tuple eX (aA (eP (NB:=["_law_k","_law_numbers"]) (n:=1) (js:=[2]) (g:=dS 0) (cl:=[("_law_numbers",s.heap.objs.size+1)]) rfl (by decide +kernel) (by decide +kernel) rfl
     (dZ.of rfl (all_cons rfl bE) (all_cons (fun z=>nomatch z) (all_cons (fun z=>nomatch z) (all_cons (fun _=>rfl) bE))) rfl (fun k j h=>match k,j,h with|0,_,rfl=>rfl|k+1,_,h=>absurd h (by simp)) (all_cons ⟨.inl rfl,.inl rfl,rfl⟩ bE))
     (oH rfl G.range (aA aC (aA (aK eV (aO bJ (by rfl) G.len PySem.boot_len (aA (pv 2) aB)) aC) (aA aC aB)))) (fun C s H fp pn=>cC (i:=0) ndKN rfl (Or.inl rfl) (.inr rfl)) (fun C s H fp pn=>dF)
     (fun C s H fp pn=>bZ (aA (aZ (r:=rIxL K) aR (pv 1) (pv 0) (fun _ _=>rfl)) (aA (aZ (r:=rIxL K) aR (pv 1) (aK cM (pv 0) aC) (fun _ _=>rfl)) aB)))) aB)))
   (aI (aT (bZ (aA (pv 3) (aA (cF cN (by rfl) G.tuple eX (aA (aQ bQ (pv 2) (aU (fT dW aC)) bI) aB)) aB))))))))),?_⟩
  have sl:sizeLine=16777216:=sizeLine_eq
  have xl:=hx.1
  have cnt:=Tm.wds_cnt x
  refine⟨_,rfl,rfl,_,_,rfl,rfl,by decide +kernel,by omega,fun l h1=>?_⟩
  rw [c32]
  show _
  have oS:=Tm.wds_ok hx
  change (tSeq _ _ _ _ (upd H l (.lst ((Tm.wds x).map V.str))))
  obtain⟨H1,hh,s1,e1⟩:=Ls.alo h1 (.lst ((Tm.wds x).map V.str))
  rw [hh]
  generalize Tm.wds x=ws at *
  refine⟨_,rfl,l,_,rfl,.inl (SqL.of e1),rfl,sY ws,_,rfl,?_⟩
  refine cI (fun hc=>?_) fun hc=>?_
  ·exact cZ (q2 _ s1 fun ps a b c h=>(kI ws).mp hc h.ne)
  refine⟨_,rfl,l,_,rfl,.inl (SqL.of e1),_,_,rfl,rfl,_,rfl,?_⟩
  rw [List.length_map]
  refine cI (fun hc=>?_) fun hc=>?_
  ·have hc:=of_decide_eq_true hc
   exact cZ (q2 _ s1 fun ps a b c h=>by have:=h.len;omega)
  have l7:7<=ws.length:=by
   have:¬ ((ws.length:Int)<7):=fun z=>hc (decide_eq_true z)
   omega
  refine⟨_,rfl,l,_,rfl,.inl (SqL.of e1),_,_,rfl,rfl,(by show (0:Int)<2;decide),rfl,_,rfl,?_⟩
  rw [List.length_map]
  refine cI (fun hc=>?_) fun hc=>?_
  ·have hc:=V.int.inj (of_decide_eq_true hc)
   refine cZ (q2 _ s1 fun ps a b c h=>?_)
   obtain⟨mid,x',y',z',rfl,ev,_⟩:=h
   rw [List.length_append,List.length_cons] at hc
   simp only [List.length_cons,List.length_nil] at hc
   omega
  have od:ws.length % 2=1:=by
   have:¬ ((ws.length:Int) % 2=0):=fun z=>hc (decide_eq_true (congrArg V.int z))
   omega
  obtain⟨w0,mid,a,b,c,d,e,f',rfl⟩:=six l7
  have oS':∀u,u ∈ (w0::mid)++[a,b,c,d,e,f']->Tm.okS 100000 u:=fun u hu=>⟨Nat.le_trans (oS u hu).1 (by decide),(oS u hu).2⟩
  have oM:∀u ∈ mid++[b,d,f'],Tm.okS 100000 u:=fun u hu=>oS' u (by
   rcases List.mem_append.mp hu with hu|hu
   ·exact List.mem_append_left _ (List.mem_cons_of_mem _ hu)
   ·refine List.mem_append_right _ ?_
    simp at hu ⊢
    rcases hu with z|z|z <;> simp [z])
  have lm:((w0::mid)++[a,b,c,d,e,f']).length=mid.length+7:=by simp
  rw [lm] at cnt od
  have e1:H1 l=some (.lst ((.str w0::mid.map V.str)++[.str a,.str b,.str c,.str d,.str e,.str f'])):=by
   rw [e1,List.map_append]
   rfl
  refine⟨_,rfl,l,_,_,_,rfl,rfl,SqL.of e1,aJ (j:=0) rfl,rfl,_,rfl,?_⟩
  refine cI (fun hc=>?_) fun hc=>?_
  ·refine q2 _ s1 fun ps u v t h=>?_
   obtain⟨mid',x',y',z',eq,_⟩:=h
   obtain⟨g1,_⟩:=gQ eq
   rw [decide_eq_true (congrArg V.str g1)] at hc
   cases hc
  have hw0:w0=Str.ofString "work":=by
   by_cases z:w0=Str.ofString "work"
   ·exact z
   ·rw [decide_eq_false (fun y=>z (V.str.inj y))] at hc
    exact absurd rfl hc
  refine⟨_,rfl,_,rfl,6,rfl,_,rfl,l,_,rfl,SqL.of e1,fun l2 h2=>?_⟩
  rw [wV rfl]
  obtain⟨H2,hh2,s2,e2⟩:=Ls.alo h2 (.lst (mid.map V.str))
  rw [hh2]
  have e12:=s2 _ _ e1
  have e12':H2 l=some (.lst ((.str w0::mid.map V.str++[.str a])++[.str b,.str c,.str d,.str e,.str f'])):=by
   rw [e12,List.append_assoc]
   rfl
  refine⟨_,rfl,5,rfl,_,rfl,_,rfl,l,_,_,5,rfl,rfl,rfl,SqL.of e12',rfl,by decide,fun l3 h3=>?_⟩
  obtain⟨H3,hh3,s3,e3⟩:=Ls.alo h3 (.lst [.str b,.str d,.str f'])
  have hh3:upd H2 l3 (.lst (evs [.str b,.str c,.str d,.str e,.str f']))=H3:=hh3
  rw [hh3]
  refine⟨l2,l3,_,_,rfl,rfl,s3 _ _ e2,e3,by rw [List.length_map];show mid.length+3<=sizeLine;omega,fun l4 h4=>?_⟩
  obtain⟨H4,hh4,s4,e4⟩:=Ls.alo h4 (.lst ((mid++[b,d,f']).map V.str))
  have hh4:upd H3 l4 (.lst (mid.map V.str++[.str b,.str d,.str f']))=H4:=by rw [<- hh4,List.map_append];rfl
  rw [hh4]
  have s14:aV H H4:=s1.trans (s2.trans (s3.trans s4))
  have el4:H4 l=some (.lst ((.str w0::mid.map V.str)++[.str a,.str b,.str c,.str d,.str e,.str f'])):=s4 _ _ (s3 _ _ e12)
  generalize hns:mid++[b,d,f']=ns at *
  have ll:ns.length=mid.length+3:=by rw [<- hns];simp
  have lmn:(ns.map V.str).length=ns.length:=List.length_map ..
  refine⟨l4,rfl,⟨_,SqL.of e4⟩,fun acc hacc=>?_⟩
  refine⟨fun i m ys H'=>m=ns.length-i/\i<=ns.length/\ys=(ns.take i).map nv/\aV H4 H'/\H' acc=some (.lst ys),⟨_,rfl,Nat.zero_le _,rfl,aG hacc,aE⟩,?_⟩
  rintro i m ys H' ⟨rfl,hi,rfl,sm,hA⟩
  refine⟨hA,?_⟩
  by_cases hlt:i<ns.length
  ·refine .inr ⟨⟨_,_,SqL.of (sm _ _ e4),List.getElem?_eq_getElem (by omega)⟩,?_⟩
   rintro y H'' ⟨rfl,hy⟩
   have ey:=hy _ (SqL.of (sm _ _ e4))
   have ez:y=.str ns[i]:=by
    rw [List.getElem?_map,List.getElem?_eq_getElem hlt] at ey
    exact(Option.some.inj ey).symm
   subst ez
   refine dC ?_
   refine⟨rfl,?_⟩
   refine dH ?_
   refine cZ ?_
   refine⟨_,rfl,ns[i],rfl,oM _ (List.getElem_mem hlt),?_⟩
   refine⟨hA,by rw [List.length_map,List.length_take];omega,_,?_,rfl,hlt,?_,fun b o z=>?_,aE⟩
   ·omega
   ·rw [List.take_add_one,List.getElem?_eq_getElem hlt,List.map_append]
    rfl
   ·rw [aP (aL z hacc)]
    exact sm _ _ z
  refine .inl ⟨⟨_,SqL.of (sm _ _ e4),by omega⟩,?_⟩
  have ei:ns.take i=ns:=List.take_of_length_le (by omega)
  rw [ei] at hA
  clear ei hlt hi
  have eL:=sm _ _ el4
  refine⟨_,rfl,6,rfl,_,rfl,_,rfl,l,_,_,6,rfl,rfl,rfl,SqL.of eL,rfl,by decide,fun l5 h5=>?_⟩
  obtain⟨H5,hh5,s5,e5⟩:=Ls.alo h5 (.lst [.str a,.str c,.str e])
  have hh5:upd H' l5 (.lst (evs [.str a,.str b,.str c,.str d,.str e,.str f']))=H5:=hh5
  rw [hh5]
  refine⟨by show 3<=sizeLine;decide,fun l6 h6=>?_⟩
  obtain⟨H6,hh6,s6,e6⟩:=Ls.alo h6 (.lst [.str "span",.str "every",.str "least"])
  rw [hh6]
  have s06:aV H H6:=s14.trans (sm.trans (s5.trans s6))
  have oa:=oS' a (by simp)
  have oc:=oS' c (by simp)
  have oe:=oS' e (by simp)
  refine⟨.list [.str a,.str c,.str e],.list [.str "span",.str "every",.str "least"],.lst (SqL.of (s6 _ _ e5)) (.cons (.str _) (.cons (.str _) (.cons (.str _) .nil))),.lst (SqL.of e6) (.cons (.str _) (.cons (.str _) (.cons (.str _) .nil))),
   (Gd.lst (n:=0) (bX (Gd.str (gP oa)) (bX (Gd.str (gP oc)) (bX (Gd.str (gP oe)) fZ)))).shaped (by decide),(Gd.lst (n:=0) (bX (Gd.str (by decide +kernel)) (bX (Gd.str (by decide +kernel)) (bX (Gd.str (by decide +kernel)) fZ)))).shaped (by decide),_,rfl,?_⟩
  rw [eqv3]
  refine cI (fun hc=>?_) fun hc=>?_
  ·refine cZ (q2 _ s06 fun ps u v t h=>?_)
   obtain⟨mid',x',y',z',eq,_⟩:=h
   obtain⟨_,_,g2,_,g3,_,g4,_⟩:=gQ eq
   rw [decide_eq_true ⟨g2,g3,g4⟩] at hc
   cases hc
  obtain⟨rfl,rfl,rfl⟩:a=Str.ofString "span"/\c=Str.ofString "every"/\e=Str.ofString "least":=by
   by_cases z:a=Str.ofString "span"/\c=Str.ofString "every"/\e=Str.ofString "least"
   ·exact z
   ·rw [decide_eq_false z] at hc
    exact absurd rfl hc
  have hA6:=s6 _ _ (s5 _ _ hA)
  refine⟨_,rfl,acc,_,rfl,.inl (SqL.of hA6),rfl,wN ns,_,rfl,?_⟩
  refine cI (fun hc=>?_) fun hc=>?_
  ·refine q2 _ s06 fun ps u v t h=>(jN ns).mp hc fun z hz=>?_
   obtain⟨mid',x',y',z',eq,_,g0,g1,g2,g3,_⟩:=h
   obtain⟨_,rfl,_,rfl,_,rfl,_,rfl⟩:=gQ eq
   rw [<- hns] at hz
   rcases List.mem_append.mp hz with hz|hz
   ·exact g0 z hz
   ·simp at hz
    rcases hz with rfl|rfl|rfl
    ·exact g1
    ·exact g2
    ·exact g3
  have al:∀u ∈ ns,cQ u=true:=Classical.byContradiction fun z=>hc ((jN ns).mpr z)
  rw [zS al] at hA6
  have vl:((cG ns).map V.int).length=mid.length+3:=by rw [List.length_map,eH,ll]
  have hvs:cG ns=cG mid++[cL b,cL d,cL f']:=by rw [<- hns];unfold cG;rw [List.map_append];rfl
  have vm:=eH mid
  have ev:mid.length % 2=0:=by omega
  have lp:=qF (cG mid)
  refine⟨_,rfl,acc,_,rfl,.inl (SqL.of hA6),_,_,rfl,rfl,mid.length / 2,by rw [vl];show [V.int 0,V.int (((mid.length+3:Nat):Int)-3),V.int 2]=[V.int 0,V.int (2 * ((mid.length / 2:Nat):Int)),V.int 2];congr 3;omega,by omega,fun acc2 hacc2=>?_⟩
  have g0:∀j,j<mid.length->((cG ns).map V.int)[j]?=some (.int ((cG mid).getD j 0)):=fun j hj=>by
   rw [hvs,List.map_append,List.getElem?_append_left (by rw [List.length_map];omega)]
   exact qX (by omega)
  refine⟨fun i m ys H'=>m=mid.length / 2-i/\i<=mid.length / 2/\Paired (Ls.PairAt H') ys ((prs (cG mid)).take i)/\aV H6 H'/\H' acc2=some (.lst ys),⟨_,rfl,Nat.zero_le _,.nil,aG hacc2,aE⟩,?_⟩
  rintro i m ys H7 ⟨rfl,hi,hP,sm7,hA7⟩
  refine⟨hA7,?_⟩
  have ly:ys.length=i:=by
   have:=hP.length
   rw [List.length_take] at this
   omega
  have eA:=sm7 _ _ hA6
  by_cases hlt:i<mid.length / 2
  ·refine .inr ⟨hlt,?_⟩
   rintro y H'' ⟨rfl,rfl⟩
   refine dC ?_
   refine⟨rfl,?_⟩
   refine dH ?_
   refine cZ ?_
   refine⟨_,rfl,_,rfl,acc,_,_,_,rfl,rfl,SqL.of eA,aJ (j:=2 * i) (g0 _ (by omega)),_,rfl,_,rfl,_,_,rfl,rfl,acc,_,_,_,rfl,rfl,SqL.of eA,aJ (j:=2 * i+1) (g0 _ (by omega)),by show 2<=sizeLine;decide,fun t' ht=>?_⟩
   have nt:acc2≠t':=aL hA7 ht
   refine⟨by rw [aP nt];exact hA7,by omega,_,?_,rfl,hlt,?_,fun b o z=>?_,aE⟩
   ·omega
   ·rw [List.take_add_one,yT (by omega)]
    exact dE (cA (fun v q ⟨b,z1,z2⟩=>⟨b,z1,by rw [aP (oO z2 hA7 (by intro z;cases z)),aP (aL z2 ht)];exact z2⟩) hP) ⟨t',rfl,by rw [aP nt.symm];exact aE⟩
   ·rw [aP (aL z hacc2),aP (aL (sm7 _ _ z) ht)]
    exact sm7 _ _ z
  refine .inl ⟨by show _<=i;omega,?_⟩
  have ei:(prs (cG mid)).take i=prs (cG mid):=List.take_of_length_le (by omega)
  rw [ei] at hP
  refine⟨acc2,_,rfl,.inl ⟨SqL.of hA7,fun pw hpw=>?_⟩⟩
  obtain⟨H8,hh8,s8,e8⟩:=Ls.alo hpw (.tup ys)
  rw [hh8]
  have hW:Ls.WorkM H8 pw (prs (cG mid)):=⟨ys,e8,cA (fun v q ⟨b,z1,z2⟩=>⟨b,z1,s8 _ _ z2⟩) hP⟩
  have eA8:=s8 _ _ eA
  rw [hvs,List.map_append] at eA8
  refine⟨_,rfl,_,rfl,3,rfl,_,rfl,acc,_,rfl,SqL.of eA8,fun l9 h9=>?_⟩
  rw [xZ rfl]
  refine⟨l9,_,rfl,.inl ⟨SqL.of aE,fun pl hpl=>?_⟩⟩
  have s89:aV H8 (upd H8 l9 (.lst [.int (cL b),.int (cL d),.int (cL f')])):=aG h9
  obtain⟨H9,hh9,s9,e9⟩:=Ls.alo hpl (.tup [.int (cL b),.int (cL d),.int (cL f')])
  have hh9:upd (upd H8 l9 (.lst [.int (cL b),.int (cL d),.int (cL f')])) pl (.tup [.int (cL b),.int (cL d),.int (cL f')])=H9:=hh9
  rw [show ([V.int (cL b),V.int (cL d),V.int (cL f')])=[cL b,cL d,cL f'].map V.int from rfl] at hh9
  rw [hh9]
  refine⟨by show 2<=sizeLine;decide,fun r hr'=>?_⟩
  have s810:=s89.trans (s9.trans (aG (o:=.tup [.ref pw,.ref pl]) hr'))
  refine q1 _ _ _ _ r _ (s06.trans (sm7.trans (s8.trans s810))) ⟨mid,b,d,f',by rw [hw0],ev,fun u hu=>al u (by rw [<- hns];exact List.mem_append_left _ hu),al b (by rw [<- hns];simp),al d (by rw [<- hns];simp),al f' (by rw [<- hns];simp),rfl,rfl,rfl,rfl⟩ ⟨pw,pl,aE,hW.same s810,aG hr' _ _ e9⟩
def kvs0 (n:Int):List (Key × V):=[(.inr "lent",.int 5),(.inr "back",.int 3),(.inr "cut",.int 3),(.inr "join",.int 2),(.inr "told",.int n)]
def mny (w0:Str) (n:Int):Int:=if w0="told" then n else if w0="join" then 2 else if w0="cut" then 3 else if w0="back" then 3 else if w0="lent" then 5 else 0
theorem mny_is (w0:Str) (n:Int):((fO (fV [] (kvs0 n)) (.inr w0)).getD (.int 0))=.int (mny w0 n):=by
 have e:fO (fV [] (kvs0 n)) (Sum.inr w0:Key)=if (Sum.inr w0:Key)=(Sum.inr (Str.ofString "told"):Key) then some (.int n) else if (Sum.inr w0:Key)=(Sum.inr (Str.ofString "join"):Key) then some (.int 2) else if (Sum.inr w0:Key)=(Sum.inr (Str.ofString "cut"):Key) then some (.int 3) else if (Sum.inr w0:Key)=(Sum.inr (Str.ofString "back"):Key) then some (.int 3) else if (Sum.inr w0:Key)=(Sum.inr (Str.ofString "lent"):Key) then some (.int 5) else none:=by
  show fO (jA (jA (jA (jA (jA ([]:List (Key × V)) (.inr "lent") (.int 5)) (.inr "back") (.int 3)) (.inr "cut") (.int 3)) (.inr "join") (.int 2)) (.inr "told") (.int n)) _=_
  rw [gZ,gZ,gZ,gZ,gZ,yF]
 rw [e]
 unfold mny
 simp only [Sum.inr.injEq]
 repeat' split
 all_goals rfl
theorem sO (n:Int):mny "lent" n=5:=by
 unfold mny
 rw [if_neg (by decide +kernel),if_neg (by decide +kernel),if_neg (by decide +kernel),if_neg (by decide +kernel),if_pos rfl]
theorem zZ (n:Int):mny "back" n=3:=by
 unfold mny
 rw [if_neg (by decide +kernel),if_neg (by decide +kernel),if_neg (by decide +kernel),if_pos rfl]
theorem mny_cut (n:Int):mny "cut" n=3:=by
 unfold mny
 rw [if_neg (by decide +kernel),if_neg (by decide +kernel),if_pos rfl]
theorem zY (n:Int):mny "join" n=2:=by
 unfold mny
 rw [if_neg (by decide +kernel),if_pos rfl]
theorem sN (n:Int):mny "told" n=n:=by
 unfold mny
 rw [if_pos rfl]
def lA:Sp:=fun vs H Q _=>∃x:Str,vs=[.str x]/\Tm.okR 90000 x/\(∀l r H',aV H H'->LnG (Tm.wds x) l->nR H' r l->Q (.ref r) H')/\(∀H',aV H H'->(∀l,¬ LnG (Tm.wds x) l)->Q .non H')
theorem gM (xs:List V) (k:Nat):cY xs none (some (k:Int))=xs.take k:=by
 unfold cY
 rw [HT.sIx_nat,HT.sIx_none,List.drop_zero,Nat.sub_zero]
 by_cases h:k<=xs.length
 ·rw [Nat.min_eq_left h]
 ·rw [Nat.min_eq_right (by omega),List.take_of_length_le (by omega),List.take_of_length_le (by omega)]
theorem gN (xs:List V) (k:Nat):cY xs (some (k:Int)) none=xs.drop k:=by
 unfold cY
 rw [HT.sIx_nat,HT.sIx_none]
 by_cases h:k<=xs.length
 ·rw [Nat.min_eq_left h]
  exact List.take_of_length_le (by rw [List.length_drop];omega)
 ·rw [Nat.min_eq_right (by omega),List.drop_of_length_le (by omega),List.drop_of_length_le (by omega),List.take_nil]
theorem iF:bO ["_law_row","_law_words","_law_many","_law_worker","_law_numbers"] ["_law_row"] (aM iZ):=⟨rfl,rfl,rfl,by decide +kernel,rfl,by decide +kernel,by decide +kernel⟩
theorem ll_rest {f fN:Addr} {fdN:FuncData} {cdv:Value} {A:Around} {outer:List Env} {s:Shared} {H:Hp} {E:XK} (G:Gb mg) (GN:aY P w K mg base CX0 1 fN fdN ["_law_word_here"] lU) (kN:keepIn K (.ref fN)=true) (bN:bV K fdN ["_law_word_here"] []) (mN:mg "_law_number"=some (.ref fN))
  (hr:eS 1 (A.deeper (PyProof.Rows.envOfC "_law_line_of" (aM iZ) s.heap.objs.size f cdv))):
  ∃t,PSs (iS CX0 P w K mg base ["_law_row","_law_words","_law_many","_law_worker","_law_numbers"] "_law_line_of" (aM iZ) f cdv A outer s H E).nox ((dA iZ).drop 5) t /\
   ∀(D:jV) (x w0:Str) (l wk:Addr) (us:List Str) (wks:List V) (many:Int) (o4:Option V) (H2:Hp),H2 l=some (.lst (.str w0::us.map V.str))->H2 wk=some (.tup wks)->(∀u ∈ us,Tm.okS 100000 u)->us.length<=100000->wks.length<=1 ->
    ((∀u ∈ us,cQ u=true)->w0="told"->∀r t H',aV H2 H'->H' r=some (.tup (.str "told"::(((cG us).map V.int).take 3++[.ref t])))->H' t=some (.tup (((cG us).map V.int).drop 3))->D.rt (.ref r) H') ->
    ((∀u ∈ us,cQ u=true)->w0≠"told"->∀r H',aV H2 H'->H' r=some (.tup (.str w0::(if wks.length=0 then(cG us).map V.int else((cG us).map V.int).take 1++wks++((cG us).map V.int).drop 1)))->D.rt (.ref r) H') ->
    (¬ (∀u ∈ us,cQ u=true)->∀H',aV H2 H'->D.rt .non H') ->
    t D [some (.str x),some (.ref l),some (.int many),some (.ref wk),o4] H2:=by
 refine⟨_,(aD (aN (i:=4) iF.nd rfl (Or.inl rfl) (cF cN (by rfl) G.tuple eX (aA (eP (NB:=["_law_word_here"]) (n:=1) (js:=[]) (cl:=[]) (g:=dS 0) rfl (by decide +kernel) (by decide +kernel) rfl
     (dZ.of rfl bE (all_cons (fun z=>nomatch z) (all_cons (fun z=>nomatch z) (all_cons (fun z=>nomatch z) bE))) rfl (fun k j h=>absurd h (by simp)) bE)
     (iI (aQ bQ (pv 1) (aU aC) bI)) (fun C s H fp pn=>cC (i:=0) ndLW rfl (Or.inl rfl) (.inr rfl)) (fun C s H fp pn=>dF)
     (fun C s H fp pn=>aH GN hr rfl mN kN bN .nil aX (aA (pv 0) aB))) aB)))
   (aD (cB (aS iK eU (pv 4) (by rfl)) (aI (aT eU)) aW)
   (aD (cB (aS dB (aZ aR (pv 1) aC (fun _ _=>rfl)) aF (bF _)) (aI (aT (aK cU (aK cU (bZ (aA aF aB)) (aQ lZ (pv 4) bI (aU aC))) (bZ (aA (aQ lZ (pv 4) (aU aC) bI) aB))))) aW)
   (aI (aT (aK cU (bZ (aA (aZ aR (pv 1) aC (fun _ _=>rfl)) aB)) (aZ aR (bU (aA (pv 4) (aA (aK cU (aK cU (aQ lZ (pv 4) bI (aU aC)) (pv 3)) (aQ lZ (pv 4) (aU aC) bI)) aB))) (aO bJ (by rfl) G.len PySem.boot_len (aA (pv 3) aB)) (fun _ _=>rfl)))))))) ,?_⟩
 intro D x w0 l wk us wks many o4 H2 e2 ewk oT ln lw qT qP qN
 have sl:sizeLine=16777216:=sizeLine_eq
 refine⟨_,rfl,_,rfl,l,_,rfl,SqL.of e2,fun l3 h3=>?_⟩
 rw [jQ]
 obtain⟨H3,hh3,s3,e3⟩:=Ls.alo h3 (.lst (us.map V.str))
 rw [hh3]
 have lmn:(us.map V.str).length=us.length:=List.length_map ..
 refine⟨l3,rfl,⟨_,SqL.of e3⟩,fun acc hacc=>?_⟩
 refine⟨fun i m ys H'=>m=us.length-i/\i<=us.length/\ys=(us.take i).map nv/\aV H3 H'/\H' acc=some (.lst ys),⟨_,rfl,Nat.zero_le _,rfl,aG hacc,aE⟩,?_⟩
 rintro i m ys H' ⟨rfl,hi,rfl,sm,hA⟩
 refine⟨hA,?_⟩
 by_cases hlt:i<us.length
 ·refine .inr ⟨⟨_,_,SqL.of (sm _ _ e3),List.getElem?_eq_getElem (by omega)⟩,?_⟩
  rintro y H'' ⟨rfl,hy⟩
  have ey:=hy _ (SqL.of (sm _ _ e3))
  have ez:y=.str us[i]:=by
   rw [List.getElem?_map,List.getElem?_eq_getElem hlt] at ey
   exact(Option.some.inj ey).symm
  subst ez
  refine dC ?_
  refine⟨rfl,?_⟩
  refine dH ?_
  refine cZ ?_
  refine⟨_,rfl,us[i],rfl,oT _ (List.getElem_mem hlt),?_⟩
  refine⟨hA,by rw [List.length_map,List.length_take];omega,_,?_,rfl,hlt,?_,fun b o z=>?_,aE⟩
  ·omega
  ·rw [List.take_add_one,List.getElem?_eq_getElem hlt,List.map_append]
   rfl
  ·rw [aP (aL z hacc)]
   exact sm _ _ z
 refine .inl ⟨⟨_,SqL.of (sm _ _ e3),by omega⟩,?_⟩
 have ei:us.take i=us:=List.take_of_length_le (by omega)
 rw [ei] at hA
 refine⟨acc,_,rfl,.inl ⟨SqL.of hA,fun nr hnr=>?_⟩⟩
 obtain⟨H4,hh4,s4,e4⟩:=Ls.alo hnr (.tup (us.map nv))
 rw [hh4]
 have s24:aV H2 H4:=s3.trans (sm.trans s4)
 refine⟨_,rfl,nr,_,rfl,.inr (SqT.of e4),rfl,wN us,_,rfl,?_⟩
 refine cI (fun hc=>?_) fun hc=>?_
 ·exact qN ((jN us).mp hc) _ s24
 have al:∀u ∈ us,cQ u=true:=Classical.byContradiction fun z=>hc ((jN us).mpr z)
 rw [zS al] at e4
 have vl:((cG us).map V.int).length=us.length:=by rw [List.length_map,eH]
 generalize hv:(cG us).map V.int=nv' at *
 have e24:=s24 _ _ e2
 refine⟨_,rfl,l,_,_,_,rfl,rfl,SqL.of e24,aJ (j:=0) rfl,rfl,_,rfl,?_⟩
 refine cI (fun hc=>?_) fun hc=>?_
 ·have hw:w0="told":=V.str.inj (of_decide_eq_true hc)
  refine⟨by show 1<=sizeLine;decide,fun t5 h5=>?_⟩
  obtain⟨H5,hh5,s5,e5⟩:=Ls.alo h5 (.tup [.str "told"])
  rw [hh5]
  refine⟨_,rfl,_,rfl,nr,_,rfl,s5 _ _ e4,fun p6 H6 s6 e6=>?_⟩
  rw [show cY nv' none (some 3)=nv'.take 3 from gM nv' 3] at e6
  refine⟨t5,p6,_,_,rfl,rfl,s6 _ _ e5,e6,by rw [List.length_take];show 1+_<=sizeLine;omega,fun p7 H7 s7 e7=>?_⟩
  refine⟨_,rfl,_,rfl,nr,_,rfl,s7 _ _ (s6 _ _ (s5 _ _ e4)),fun p8 H8 s8 e8=>?_⟩
  rw [show cY nv' (some 3) none=nv'.drop 3 from gN nv' 3] at e8
  refine⟨by show 1<=sizeLine;decide,fun t9 h9=>?_⟩
  obtain⟨H9,hh9,s9,e9⟩:=Ls.alo h9 (.tup [.ref p8])
  rw [hh9]
  refine⟨p7,t9,_,_,rfl,rfl,s9 _ _ (s8 _ _ e7),e9,by rw [List.length_append,List.length_take];show 1+_+1<=sizeLine;omega,fun r H10 s10 e10=>?_⟩
  refine qT al hw r p8 H10 (s24.trans (s5.trans (s6.trans (s7.trans (s8.trans (s9.trans s10)))))) ?_ (s10 _ _ (s9 _ _ e8))
  rw [e10]
  simp
 ·have hw:w0≠"told":=fun z=>hc (decide_eq_true (by rw [z]))
  refine⟨_,rfl,l,_,_,_,rfl,rfl,SqL.of e24,aJ (j:=0) rfl,by show 1<=sizeLine;decide,fun t5 h5=>?_⟩
  obtain⟨H5,hh5,s5,e5⟩:=Ls.alo h5 (.tup [.str w0])
  rw [hh5]
  have s35:=s24.trans s5
  refine⟨_,rfl,_,rfl,_,rfl,nr,_,rfl,s5 _ _ e4,fun p6 H6 s6 e6=>?_⟩
  rw [show cY nv' none (some 1)=nv'.take 1 from gM nv' 1] at e6
  refine⟨_,rfl,p6,wk,_,_,rfl,rfl,e6,s6 _ _ (s35 _ _ ewk),by rw [List.length_take];omega,fun p7 H7 s7 e7=>?_⟩
  refine⟨_,rfl,_,rfl,nr,_,rfl,s7 _ _ (s6 _ _ (s5 _ _ e4)),fun p8 H8 s8 e8=>?_⟩
  rw [show cY nv' (some 1) none=nv'.drop 1 from gN nv' 1] at e8
  refine⟨p7,p8,_,_,rfl,rfl,s8 _ _ e7,e8,by rw [List.length_append,List.length_take,List.length_drop];omega,fun p9 H9 s9 e9=>?_⟩
  refine⟨by show 2<=sizeLine;decide,fun l10 h10=>?_⟩
  obtain⟨H10,hh10,s10,e10⟩:=Ls.alo h10 (.lst [.ref nr,.ref p9])
  rw [hh10]
  have s510:aV H5 H10:=s6.trans (s7.trans (s8.trans (s9.trans s10)))
  have s210:=s35.trans s510
  refine⟨_,rfl,wk,_,rfl,.inr (SqT.of (s210 _ _ ewk)),?_⟩
  by_cases c0:wks.length=0
  ·rw [if_pos c0] at qP
   refine⟨l10,_,_,_,rfl,rfl,SqL.of e10,(by rw [c0];exact aJ (j:=0) rfl),?_⟩
   exact⟨t5,nr,_,_,rfl,rfl,s510 _ _ e5,s510 _ _ (s5 _ _ e4),by show 1+_<=sizeLine;omega,fun r H11 s11 e11=>qP al hw r H11 (s210.trans s11) e11⟩
  ·rw [if_neg c0] at qP
   refine⟨l10,_,_,_,rfl,rfl,SqL.of e10,(by rw [show wks.length=1 by omega];exact aJ (j:=1) rfl),?_⟩
   exact⟨t5,p9,_,_,rfl,rfl,s510 _ _ e5,s10 _ _ e9,by rw [List.length_append,List.length_append,List.length_take,List.length_drop];show 1+_<=sizeLine;omega,fun r H11 s11 e11=>qP al hw r H11 (s210.trans s11) e11⟩
theorem zL {f fN:Addr} {fd fdN:FuncData} (F:Fun K "_law_line_of" "_law_line_of" iZ f fd) (G:Gb mg) (GN:aY P w K mg base CX0 1 fN fdN ["_law_word_here"] lU) (kN:keepIn K (.ref fN)=true) (bN:bV K fdN ["_law_word_here"] []) (mN:mg "_law_number"=some (.ref fN)):aY P w K mg base CX0 2 f fd ["_law_row"] lA:=by
 refine F.ok iF (fun vs H Q E h=>?_) (fun cdv A outer s H vs Q E hr h=>?_)
 ·obtain⟨i,rfl,_⟩:=h
  rfl
 ·obtain⟨x,rfl,hx,q1,q2⟩:=h
  obtain⟨tr,hR,rest⟩:=ll_rest (f:=f) (cdv:=cdv) (A:=A) (outer:=outer) (s:=s) (H:=H) (E:=E) G GN kN bN mN hr
  have hu:(A.deeper (PyProof.Rows.envOfC "_law_line_of" (aM iZ) s.heap.objs.size f cdv)).units+1<cLine:=by have:=hr.un;omega
  refine⟨_,aD (aN (i:=1) iF.nd rfl (Or.inl rfl) (fU PySem.F.plainAttrs_str PySem.F.slot_str_split PySem.F.type_str_split gJ (pv 0) (aA aF aB)))
   (aD (aN (i:=2) iF.nd rfl (Or.inl rfl) (zB hu (pe_disp (hX aF aC (hX aF aC (hX aF aC (hX aF aC (hX aF (aO (oZ rfl) (by rfl) G.max Ls.boot_mx (aA aC (aA (aO bJ (by rfl) G.len PySem.boot_len (aA (pv 1) aB)) aB))) pps_nil))))) rfl rfl (by intro z;cases z) (by decide))
     (aZ aR (pv 1) aC (fun _ _=>rfl)) aC (by constructor <;> rfl)))
   (aD (cB (PW.pt (gE (aS iK aF (pv 1) (by rfl)) (eT (aS kK (aO bJ (by rfl) G.len PySem.boot_len (aA (pv 1) aB)) (pv 2) (bF _))))) (aI (aT eU)) aW)
   (aD (aN (i:=3) iF.nd rfl (Or.inl rfl) (bZ aB))
   (aD (cB (aS dB (aZ aR (pv 1) aC (fun _ _=>rfl)) aF (bF _)) (aI (aN (i:=3) iF.nd rfl (Or.inl rfl) (bZ (aA (fU PySem.F.plainAttrs_list PySem.F.slot_list_pop PySem.F.type_list_pop zX (pv 1) (aA aC aB)) aB)))) aW)
   (by exact hR))))),?_⟩
  have sl:sizeLine=16777216:=sizeLine_eq
  have xl:=hx.1
  have cnt:=Tm.wds_cnt x
  have nE:=Tm.wds_ne x
  refine⟨_,rfl,rfl,_,_,rfl,rfl,by decide +kernel,by omega,fun l h1=>?_⟩
  rw [c32]
  have oS:=Tm.wds_ok hx
  change (tSeq _ _ _ _ (upd H l (.lst ((Tm.wds x).map V.str))))
  obtain⟨H1,hh,s1,e1⟩:=Ls.alo h1 (.lst ((Tm.wds x).map V.str))
  rw [hh]
  generalize Tm.wds x=ws at *
  obtain⟨w0,ws,rfl⟩:∃w0 t,ws=w0::t:=by
   cases ws with
   | nil=>exact absurd rfl nE
   | cons a t=>exact⟨a,t,rfl⟩
  have e1:H1 l=some (.lst (.str w0::ws.map V.str)):=e1
  have ll:(V.str w0::ws.map V.str).length=ws.length+1:=by rw [List.length_cons,List.length_map]
  have oT:∀u ∈ ws,Tm.okS 100000 u:=fun u hu=>⟨Nat.le_trans (oS u (List.mem_cons_of_mem _ hu)).1 (by decide),(oS u (List.mem_cons_of_mem _ hu)).2⟩
  have ln:ws.length<=90000:=by rw [List.length_cons] at cnt;omega
  refine fun d hd=>?_
  have n1:l≠d:=aL e1 hd
  have e1d:(upd H1 d (.dK [])) l=some (.lst (.str w0::ws.map V.str)):=by rw [aP n1];exact e1
  refine⟨_,rfl,l,_,rfl,.inl (SqL.of e1d),_,_,rfl,?_⟩
  rw [ll]
  refine⟨aE,kvs0 (if ((ws.length+1:Nat):Int) > 4 then((ws.length+1:Nat):Int) else 4),rfl,(by show 5<=15;decide),?_⟩
  generalize hmx:(if ((ws.length+1:Nat):Int) > 4 then((ws.length+1:Nat):Int) else 4)=mx
  have s2:aV H1 (upd (upd H1 d (.dK [])) d (.dK (fV [] (kvs0 mx)))):=fun b o z=>by
   rw [aP (aL z hd),aP (aL z hd)]
   exact z
  have ed:(upd (upd H1 d (.dK [])) d (.dK (fV [] (kvs0 mx)))) d=some (.dK (fV [] (kvs0 mx))):=aE
  generalize upd (upd H1 d (.dK [])) d (.dK (fV [] (kvs0 mx)))=H2 at s2 ed ⊢
  have e2:=s2 _ _ e1
  have s02:=s1.trans s2
  refine⟨d,rfl,.inl ⟨_,.inl ed⟩,_,rfl,l,_,_,_,rfl,rfl,SqL.of e2,aJ (j:=0) rfl,_,.inl ⟨_,.inr w0,.inl ed,rfl,rfl⟩,?_⟩
  rw [mny_is]
  refine⟨_,rfl,l,_,rfl,.inl (SqL.of e2),rfl,sY (w0::ws),_,rfl,?_⟩
  refine cI (fun hc=>?_) fun hc=>?_
  ·exact cZ (q2 _ s02 fun l h=>(kI (w0::ws)).mp hc h.ne)
  have ne:∀u ∈ w0::ws,1<=u.length:=Classical.byContradiction fun z=>hc ((kI (w0::ws)).mpr z)
  refine⟨_,rfl,l,_,rfl,.inl (SqL.of e2),_,rfl,rfl,_,rfl,?_⟩
  rw [ll]
  have shp:∀y,LnG (w0::ws) y->((ws.length+1:Nat):Int)=mny w0 mx:=fun y h=>by
   cases y with
   | lent a' x' b' c'=>
    obtain⟨a1,b1,c1,e,_⟩:=h
    have l0:=congrArg List.length e
    rw [List.length_cons] at l0
    have e0:=(List.cons.inj e).1
    rw [e0,sO]
    simp only [List.length_cons,List.length_nil] at l0
    omega
   | told a' b' c' ns=>
    obtain⟨a1,b1,c1,ns',e,_⟩:=h
    have l0:=congrArg List.length e
    simp only [List.length_cons] at l0
    have e0:=(List.cons.inj e).1
    rw [e0,sN,<- hmx]
    split <;> omega
   | plain k ns=>
    obtain⟨ns',e,pk,_⟩:=h
    obtain⟨rfl,rfl⟩:=List.cons.inj e
    rcases pk with ⟨rfl,z⟩|⟨rfl,z⟩|⟨rfl,z⟩
    ·rw [zZ];omega
    ·rw [mny_cut];omega
    ·rw [zY];omega
  refine cI (fun hc=>?_) fun hc=>?_
  ·refine q2 _ s02 fun y h=>?_
   rw [decide_eq_true (congrArg V.int (shp y h))] at hc
   cases hc
  have hlen:((ws.length+1:Nat):Int)=mny w0 mx:=by
   by_cases z:((ws.length+1:Nat):Int)=mny w0 mx
   ·exact z
   ·rw [decide_eq_false (fun y=>z (V.int.inj y))] at hc
    exact absurd rfl hc
  refine⟨by show 0<=sizeLine;omega,fun wk hwk=>?_⟩
  obtain⟨H3,hh3,s3,e3⟩:=Ls.alo hwk (.tup [])
  rw [hh3]
  have s03:=s02.trans s3
  have e23:=s3 _ _ e2
  refine⟨_,rfl,l,_,_,_,rfl,rfl,SqL.of e23,aJ (j:=0) rfl,rfl,_,rfl,?_⟩
  refine cI (fun hw=>?_) fun hw=>?_
  ·have hw:w0="lent":=V.str.inj (of_decide_eq_true hw)
   subst hw
   have l4:ws.length=4:=by
    rw [sO] at hlen
    omega
   obtain⟨a,y,b,c,rfl⟩:=lenF l4
   have inv:∀l,LnG (("lent":Str)::[a,y,b,c]) l->cQ a=true/\cQ b=true/\cQ c=true:=fun l h=>by
    obtain⟨a2,x2,b2,c2,rfl⟩:=h.lentI rfl
    obtain⟨a',b',c',e,_,h1,h2,h3,_⟩:=h
    simp only [List.cons.injEq,and_true] at e
    obtain⟨_,rfl,_,rfl,rfl⟩:=e
    exact⟨h1,h2,h3⟩
   refine⟨_,rfl,.inl ⟨rfl,_,SqL.of e23⟩,l,_,2,2,_,rfl,rfl,e23,by decide,by decide,rfl,rfl,?_⟩
   have s04:aV H (upd H3 l (.lst [.str "lent",.str a,.str b,.str c])):=fun b o z=>by
    rw [aP (aL z h1)]
    exact s03 _ _ z
   have e4:(upd H3 l (.lst [.str "lent",.str a,.str b,.str c])) l=some (.lst [.str "lent",.str a,.str b,.str c]):=aE
   refine⟨by show 1<=sizeLine;decide,fun w2 hw2=>?_⟩
   have hw2:(upd H3 l (.lst [.str "lent",.str a,.str b,.str c])) w2=none:=hw2
   have s5:aV (upd H3 l (.lst [.str "lent",.str a,.str b,.str c])) (upd (upd H3 l (.lst [.str "lent",.str a,.str b,.str c])) w2 (.tup [.str y])):=aG hw2
   have s05:=s04.trans s5
   refine rest _ x "lent" l w2 [a,b,c] [.str y] _ _ (upd (upd H3 l (.lst [.str "lent",.str a,.str b,.str c])) w2 (.tup [.str y])) (s5 _ _ e4) aE (all_cons (oT a (by simp)) (all_cons (oT b (by simp)) (all_cons (oT c (by simp)) bE))) (by show 3<=100000;decide) (by show 1<=1;decide) (fun _ z=>absurd z (by decide +kernel)) (fun al _ r H' s' er=>?_) (fun n H' s'=>q2 _ (s05.trans s') fun l h=>n (all_cons (inv l h).1 (all_cons (inv l h).2.1 (all_cons (inv l h).2.2 bE))))
   refine q1 (.lent (cL a) y (cL b) (cL c)) r H' (s05.trans s') ⟨a,b,c,rfl,ne y (by simp),al a (by simp),al b (by simp),al c (by simp),rfl,rfl,rfl⟩ ?_
   have e0:(if [V.str y].length=0 then(cG [a,b,c]).map V.int else((cG [a,b,c]).map V.int).take 1++[V.str y]++((cG [a,b,c]).map V.int).drop 1)=[.int (cL a),.str y,.int (cL b),.int (cL c)]:=rfl
   rw [e0] at er
   exact er
  ·have hw:w0≠"lent":=fun z=>hw (decide_eq_true (by rw [z]))
   refine rest _ x w0 l wk ws [] _ _ H3 e23 e3 oT (by omega) (Nat.zero_le _) (fun al ht r t H' s' er et=>?_) (fun al nt r H' s' er=>?_) (fun n H' s'=>q2 _ (s03.trans s') fun y h=>n fun u hu=>?_)
   ·subst ht
    rw [sN,<- hmx] at hlen
    have l3:3<=ws.length:=by
     split at hlen <;> omega
    obtain⟨a,t1,rfl⟩:∃a t,ws=a::t:=List.exists_cons_of_length_pos (by omega)
    obtain⟨b,t2,rfl⟩:∃a t,t1=a::t:=List.exists_cons_of_length_pos (by simp only [List.length_cons] at l3;omega)
    obtain⟨c,ns,rfl⟩:∃a t,t2=a::t:=List.exists_cons_of_length_pos (by simp only [List.length_cons] at l3;omega)
    exact q1 (.told (cL a) (cL b) (cL c) (cG ns)) r H' (s03.trans s') ⟨a,b,c,ns,rfl,al a (by simp),al b (by simp),al c (by simp),fun u hu=>al u (by simp [hu]),rfl,rfl,rfl,rfl⟩ ⟨t,er,et⟩
   ·refine q1 (.plain w0 (cG ws)) r H' (s03.trans s') ⟨ws,rfl,?_,al,rfl⟩ er
    unfold mny at hlen
    rw [if_neg nt] at hlen
    split at hlen
    ·next z=>exact .inr (.inr ⟨z,by omega⟩)
    split at hlen
    ·next z=>exact .inr (.inl ⟨z,by omega⟩)
    split at hlen
    ·next z=>exact .inl ⟨z,by omega⟩
    omega
   ·cases y with
    | lent a' x' b' c'=>
     obtain⟨a1,b1,c1,e,_⟩:=h
     exact absurd (List.cons.inj e).1 hw
    | told a' b' c' ns=>
     obtain⟨a1,b1,c1,ns',e,g1,g2,g3,g4,_⟩:=h
     obtain⟨_,rfl⟩:=List.cons.inj e
     have al:∀u ∈ a1::b1::c1::ns',cQ u=true:=all_cons g1 (all_cons g2 (all_cons g3 g4))
     exact al u hu
    | plain k ns=>
     obtain⟨ns',e,pk,g,_⟩:=h
     obtain⟨rfl,rfl⟩:=List.cons.inj e
     exact g u hu
end
end Lt
namespace L2
open PySem PySem.Spec PyProof.Rows PySem.W
section
variable {prog:Program} {w:World} {A:Around} {E:Value->Shared->Prop} {s:Shared}
theorem vE {t:Addr} {items:Array Value} {Q:Value->Shared->Prop} (ht:IsTup s.heap t items)
  (hQ:∀h':Heap,IsEnum h' (s.heap.objs.size+1) s.heap.objs.size 0 .none->h'.IsTupleIter s.heap.objs.size t 0->h'.objs.size=s.heap.objs.size+2->(∀b o,s.heap.get? b=some o->h'.get? b=some o)->Q (.ref (s.heap.objs.size+1)) { s with heap:=h' }):
  wpAny (model prog w) A (call (.type "enumerate") [.ref t]) Q E s:=by
 refine wpAny_call (codeAny_of_tree ?_)
 refine wpAny_pure ⟨Code.quiet_builtin _ callType_meets._proof_1_1,codeAny_builtin F.entry_type_call ?_⟩
 rw [Around.under_plain (weight_type_call_type "enumerate" [.ref t] []) (units_type_call_type "enumerate" [.ref t] [])]
 have ft:=F.called_enumerate
 unfold Builtin.«type.__call__»
 refine wpAny_ite_false (by decide) ?_
 refine wpAny_ite_false (by rw [ft.canCreate];decide) ?_
 have hct:checkTypeCall "enumerate" { pos:=[.ref t],kw:=[] }=pure ():=by rfl
 obtain⟨c,tl,hmro⟩:=ft.mro
 have hmade:=ft.made
 refine wpAny_bind (wpAny_of_eq hct ?_)
 refine wpAny_bind (wpAny_of_eq hmro ?_)
 refine wpAny_ite_false (by simp) ?_
 refine wpAny_bind (wpAny_of_eq hmade ?_)
 refine wpAny_bind (wpAny_pure ?_)
 refine wpAny_bind (wpAny_holding ?_)
 have hcn:checkBuiltinCall "enumerate.__new__" { pos:=[Value.type "enumerate",.ref t],kw:=[] }=pure ():=by kernel_rfl
 refine wpAny_call (codeAny_call_builtin ft.plain F.entry_enumerate_new (wpAny_of_eq hcn ?_))
 unfold Builtin.«enumerate.__new__»
 have hnc:Builtin.SmallTypes.newClass "enumerate" { pos:=[Value.type "enumerate",.ref t],kw:=[] }=pure (Value.type "enumerate",[.ref t]):=by rfl
 refine wpAny_bind (wpAny_of_eq hnc ?_)
 refine wpAny_ite_true (by decide) ?_
 refine wpAny_bind ?_
 unfold Builtin.SmallTypes.calledThroughType
 refine wpAny_bind (wpAny_stack_any fun st=>wpAny_pure ?_)
 have rest:∀(R:PySem.Fin->Shared->Prop) (E':Value->Shared->Prop),(∀h':Heap,IsEnum h' (s.heap.objs.size+1) s.heap.objs.size 0 .none->h'.IsTupleIter s.heap.objs.size t 0->h'.objs.size=s.heap.objs.size+2->(∀b o,s.heap.get? b=some o->h'.get? b=some o)->R (PySem.Fin.done (Flow.ret (.ref (s.heap.objs.size+1)))) { s with heap:=h' }) ->
   wpAny (model prog w) A.in1.in1 (do
    let it <- pyIter (.ref t)
    let r <- Builtin.SmallTypes.newRecord (Value.type "enumerate") (Builtin.SmallTypes.ownedTupleFields++[it,rawInt 0,Value.none,Value.none])
    ret r) R E' s:=fun R E' hR=>by
  refine wpAny_bind (wpAny_pyIter_tuple (show s.heap.IsTuple t items from ht) ?_)
  refine wpAny_bind ?_
  show wpAny _ _ (newObj (Value.type "enumerate") (Data.fields #[Value.none,Value.bool false,.ref s.heap.objs.size,rawInt 0,Value.none,Value.none])) _ _ _
  refine wpAny_newObj_type ?_
  refine wpAny_pure ?_
  have sz:(s.heap.push { cls:=Value.type "tuple_iterator",data:=Data.fields #[Value.ref t,Value.int 0 0] }).objs.size=s.heap.objs.size+1:=by rw [Heap.size_push]
  rw [sz]
  refine hR _ ?_ ?_ ?_ ?_
  ·rw [<- sz]
   exact Heap.get?_push_size _ rfl
  ·exact⟨_,Heap.get?_push_of_some _ (Heap.get?_push_size _ rfl),rfl,rfl⟩
  ·rw [Heap.size_push,sz]
  ·exact fun b o e=>Heap.get?_push_of_some _ (Heap.get?_push_of_some _ e)
 refine tN (fun _=>?_) (fun _=>?_)
 all_goals
  refine wpAny_bind (wpAny_of_eq (a:=(Value.ref t,(none:Option Value))) (by kernel_rfl) ?_)
  refine rest _ _ fun h' e1 e2 e3 e4=>?_
  show wpAny _ _ (isInstance (Value.ref (s.heap.objs.size+1)) (Value.type "enumerate") >>= _) _ _ _
  refine wpAny_bind (wpAny_isInstance ⟨_,e1,rfl⟩ ft.sub ?_)
  refine wpAny_ite_false (by decide) ?_
  refine wpAny_bind (wpAny_holding (wpAny_callSpecial?_slot ⟨_,e1,rfl⟩ ft.init ?_))
  refine wpAny_call_entry_kw ft.init ⟨_,e1,rfl⟩ F.entry_object_init ?_ (by kernel_rfl)
  unfold Builtin.«object.__init__»
  refine wpAny_ite_true (by rfl) ?_
  refine wpAny_bind (wpAny_typeOf ⟨_,e1,rfl⟩ ?_)
  refine wpAny_bind (wpAny_of_eq ft.init.lookup ?_)
  refine wpAny_bind (wpAny_of_eq hmade ?_)
  refine wpAny_ite_false (by decide) ?_
  refine wpAny_ite_false (by kernel_rfl) ?_
  refine wpAny_pure ⟨_,rfl,?_⟩
  refine wpAny_ite_false (by decide) ?_
  refine wpAny_pure ?_
  exact hQ h' e1 e2 e3 e4
end
section
def iEnum0 (K:PySem.W.Frag) (ta:TA):TI:=fun σ H R=>ta σ H fun xs H1=>∃(t:Addr),xs=[.ref t]/\(∃ys,SqT K H1 t ys)/\R (Ite K t 0) H1
theorem yX {X:Cx} {p pos tpos:Pos} {a:Expr} {elts:List Expr} {k1:Nat} {ta:TA} (hg:Gl X "enumerate") (hm:X.mg "enumerate"=none) (ha:PA X [a] ta) (hs:starEach [a] X.env=[(false,eval a X.env)]:=by rfl) (hc0:X.calm=true:=by rfl):
  PI X (.Tuple elts k1 tpos) (.Call (.Name "enumerate" p) [a] [] pos) (iEnum0 X.K ta):=by
 intro pins s σ H R I h
 refine Call_ (iC I hg hm (show bootBuiltins "enumerate"=some (.type "enumerate") by decide +kernel) (PyProof.Rows.callWith_type1 (thn (ha pins s σ H _ I h) fun us s1 ⟨vs,H1,I2,r,q1⟩=>?_) (by rw [hs];rfl) (by rfl)))
 obtain⟨t,rfl,⟨ys,hq⟩,q2⟩:=q1
 obtain⟨u,rfl,ru⟩:=r.one
 cases ru
 obtain⟨its,rv,pt,hz⟩:=I2.tuple hq
 refine vE pt fun h' e1 e2 e3 e4=>?_
 refine wpAny_pyIter_enum e1 ?_
 have I3:Inv X pins σ H1 { s1 with heap:=h' }:=I2.kept (t':=s1.toks) e4
 refine⟨s1.heap.objs.size+1,[s1.heap.objs.size+1,s1.heap.objs.size],_,_,H1,rfl,I3,wZ (t:=t) (dD:=0) (Nat.succ_ne_self _) (I.ok.hd hc0),⟨⟨.none,by rw [show (0:Int)+((0:Nat):Int)=0 by omega];exact e1⟩,e2⟩,fun b hb=>?_,q2⟩
 rcases List.mem_cons.mp hb with rfl|hb
 ·exact I2.fpOk (Nat.le_succ _) (I2.hok.fresh (Nat.le_succ _))
 ·have e:b=s1.heap.objs.size:=by simpa using hb
  subst e
  exact I2.fpOk (Nat.le_refl _) (I2.hok.fresh (Nat.le_refl _))
end
end L2
namespace Lt
open PySem L2 PySem.W
def pQ:Sp:=fun vs H Q _=>∃(p:Addr) (ps:List (Int × Int)),vs=[.ref p]/\Ls.WorkM H p ps/\ps.length<=100000/\∀H',aV H H'->Q (.bl (wkB ps)) H'
def bdB (a b c:Int):Bool:=decide (1<=a/\1<=b/\1<=c/\b<=c)
theorem bdB_t {a b c:Int} (h:bdP a b c):bdB a b c=true:=decide_eq_true h
theorem bdB_f {a b c:Int} (h:¬ bdP a b c):bdB a b c=false:=decide_eq_false h
def pP:Sp:=fun vs H Q _=>∃(p:Addr) (a b c:Int),vs=[.ref p]/\H p=some (.tup [.int a,.int b,.int c])/\Q (.bl (bdB a b c)) H
theorem tQ {ps:List (Int × Int)}:wkP ps↔(∀(j:Nat) (q:Int × Int),ps[j]?=some q->q.1<q.2)/\∀(k:Nat) (q r:Int × Int),ps[k]?=some q->ps[k+1]?=some r->q.2<=r.1:=by
 have st:∀(j:Nat) (q:Int × Int),ps[j]?=some q->(ps.map stO)[j]?=some (stO q):=fun j q h=>by rw [List.getElem?_map,h];rfl
 constructor
 ·rintro⟨h1,h2⟩
  have lt:∀(j:Nat) (q:Int × Int),ps[j]?=some q->q.1<q.2:=fun j q h=>by
   have:=h1 j _ (st j q h)
   unfold stO at this
   split at this
   ·assumption
   ·cases this
  refine⟨lt,fun k q r e1 e2=>?_⟩
  have g1:=st k q e1
  have g2:=st (k+1) r e2
  unfold stO at g1 g2
  rw [if_pos (lt _ _ e1)] at g1
  rw [if_pos (lt _ _ e2)] at g2
  exact h2 k q.1 q.2 r.1 r.2 g1 g2
 ·rintro⟨h1,h2⟩
  refine⟨fun j o e=>?_,fun k l h l' h' e1 e2=>?_⟩
  ·rw [List.getElem?_map] at e
   cases z:ps[j]? with
   | none=>rw [z] at e;cases e
   | some q=>
    rw [z] at e
    cases e
    unfold stO
    rw [if_pos (h1 j q z)]
    rfl
  ·rw [List.getElem?_map] at e1 e2
   cases z1:ps[k]? with
   | none=>rw [z1] at e1;cases e1
   | some q=>
    cases z2:ps[k+1]? with
    | none=>rw [z2] at e2;cases e2
    | some r=>
     rw [z1] at e1
     rw [z2] at e2
     have e1:stO q=some (l,h):=Option.some.inj e1
     have e2:stO r=some (l',h'):=Option.some.inj e2
     unfold stO at e1 e2
     rw [if_pos (h1 _ _ z1)] at e1
     rw [if_pos (h1 _ _ z2)] at e2
     have:=h2 k q r z1 z2
     cases e1
     cases e2
     exact this
section
variable {P:Program} {w:World} {K:PySem.W.Frag} {mg:Str->Option Value} {base:Heap}
theorem pZ:bO ["_law_work","_law_k","_law_low","_law_high"] ["_law_work"] (aM sLIsW):=⟨rfl,rfl,rfl,by decide +kernel,rfl,by decide +kernel,by decide +kernel⟩
theorem ok_lisw {f:Addr} {fd:FuncData} (F:Fun K "_law_is_work" "_law_is_work" sLIsW f fd) (G:Gb mg):aY P w K mg base CX0 1 f fd ["_law_work"] pQ:=by
 refine F.ok pZ (fun vs H Q E h=>?_) (fun cdv A outer s H vs Q E hr h=>?_)
 ·obtain⟨p,ps,rfl,_⟩:=h
  rfl
 ·obtain⟨p,ps,rfl,⟨xs,hx,hp⟩,lp,q⟩:=h
  refine⟨_,aD (gR PassesOwn.never rfl (yX (by rfl) G.enum (aA (pv 0) aB)) (qH (n:=2) rfl (dR (cC (i:=1) pZ.nd rfl (Or.inl rfl)) (dR (qH (n:=2) rfl (dR (cC (i:=2) pZ.nd rfl (Or.inl rfl)) (dR (cC (i:=3) pZ.nd rfl (Or.inl rfl)) jK))) jK)))
    (aI (cB (PW.pt (gE (aS sK (pv 2) (pv 3) (bF _)) (eT (PW.pt (jY (aS sJ (pv 1) aC (bF _)) (iH (aS iT (pv 2) (aZ cK (aZ cK (pv 0) (aK eV (pv 1) aC) (fun _ _=>rfl)) aC (fun _ _=>rfl)) (bF _)))))))) (aI (aT hZ)) aW)))
   (aI (aT hZ)),?_⟩
  have lx:xs.length=ps.length:=hp.length
  refine⟨_,rfl,p,rfl,⟨_,SqT.of hx⟩,AaJ (K:=K) (a:=p) (d:=0) (xs:=xs) (fun i σ H2=>aV H H2/\(∀(j:Nat) (q:Int × Int),j<i->ps[j]?=some q->q.1<q.2)/\(∀(k:Nat) (q r:Int × Int),k+1<i->ps[k]?=some q->ps[k+1]?=some r->q.2<=r.1)/\∃u v z,σ=[some (.ref p),u,v,z])
   ⟨aV.refl _,fun j q h=>absurd h (Nat.not_lt_zero _),fun k q r h=>absurd h (Nat.not_lt_zero _),_,_,_,rfl⟩ (fun i σ H2 _ ⟨e,_⟩=>SqT.of (e _ _ hx)) ?_ ?_⟩
  ·rintro i y σ H2 t hi ⟨sm,h1,h2,u,v,z,rfl⟩ ht
   obtain⟨pq,hpq,b,rfl,hb⟩:=fG hp hi
   have s3:=aG (o:=.tup [.int (0+(i:Int)),.ref b]) ht
   have hb3:=s3 _ _ (sm _ _ hb)
   have st:=sm.trans s3
   refine⟨t,_,rfl,SqT.of aE,rfl,_,_,rfl,_,_,rfl,b,_,rfl,SqT.of hb3,rfl,_,_,rfl,_,_,rfl,rfl,rfl,?_⟩
   have i0:(0:Int)+(i:Int)=(i:Int):=by omega
   have bad:¬ wkP ps->wkB ps=false:=fun n=>Bool.eq_false_iff.mpr fun z=>n (nS.mp z)
   refine⟨_,rfl,_,rfl,_,_,rfl,rfl,_,rfl,cI (fun hc=>?_) fun hc=>?_⟩
   ·have hc:=of_decide_eq_true hc
    refine cZ ?_
    rw [bad fun z=>by have:=(tQ.mp z).1 i pq hpq;omega] at q
    exact q _ st
   have lt:pq.1<pq.2:=by
    have:¬ (pq.2<=pq.1):=fun z=>hc (decide_eq_true z)
    omega
   have up1:∀(j:Nat) (q:Int × Int),j<i+1->ps[j]?=some q->q.1<q.2:=fun j q hj e=>by
    by_cases z:j<i
    ·exact h1 j q z e
    ·have:j=i:=by omega
     subst this
     rw [hpq] at e
     cases e
     exact lt
   refine⟨_,rfl,_,_,rfl,rfl,_,rfl,cI (fun hk=>?_) fun hk=>?_⟩
   ·have hk:=of_decide_eq_true hk
    obtain⟨k,rfl⟩:∃k,i=k+1:=⟨i-1,by omega⟩
    have kl:k<xs.length:=by have:=(List.getElem?_eq_some_iff.mp hi).1;omega
    obtain⟨pr,hpr,b2,e2,hb2⟩:=fG hp (List.getElem?_eq_getElem kl)
    have ik:(0:Int)+((k+1:Nat):Int)-1=((k:Nat):Int):=by omega
    refine⟨_,rfl,_,rfl,_,rfl,_,_,rfl,rfl,p,_,_,_,rfl,rfl,SqT.of (st _ _ hx),(by rw [ik];exact aJ (List.getElem?_eq_getElem kl)),b2,_,_,_,e2,rfl,SqT.of (st _ _ hb2),aJ (j:=1) rfl,_,_,rfl,rfl,_,rfl,cI (fun hc2=>?_) fun hc2=>?_⟩
    ·have hc2:=of_decide_eq_true hc2
     rw [bad fun z=>by have:=(tQ.mp z).2 k pr pq hpr hpq;omega] at q
     exact q _ st
    ·have hc2:¬ (pq.1<pr.2):=fun z=>hc2 (decide_eq_true z)
     refine⟨st,up1,fun k' q' r' hk' f1 f2=>?_,_,_,_,rfl⟩
     by_cases z:k' + 1<k+1
     ·exact h2 k' q' r' z f1 f2
     ·have:k'=k:=by omega
      subst this
      rw [hpr] at f1
      rw [hpq] at f2
      cases f1
      cases f2
      omega
   ·have hk:¬ ((0:Int)+(i:Int) > 0):=fun z=>hk (decide_eq_true z)
    exact eM ⟨st,up1,fun k q r hk'=>by omega,_,_,_,rfl⟩
  ·rintro σ H2 ⟨sm,h1,h2,u,v,z,rfl⟩
   have:wkB ps=true:=nS.mpr (tQ.mpr ⟨fun j q h=>h1 j q (by have:=(List.getElem?_eq_some_iff.mp h).1;omega) h,fun k q r e1 e2=>h2 k q r (by have:=(List.getElem?_eq_some_iff.mp e2).1;omega) e1 e2⟩)
   rw [this] at q
   exact q _ sm
theorem scLLim:bO ["_law_limits"] ["_law_limits"] (aM uO):=⟨rfl,rfl,rfl,by decide +kernel,rfl,by decide +kernel,by decide +kernel⟩
theorem ok_llim {f:Addr} {fd:FuncData} (F:Fun K "_law_are_limits" "_law_are_limits" uO f fd) (G:Gb mg):aY P w K mg base CX0 1 f fd ["_law_limits"] pP:=by
 refine F.ok scLLim (fun vs H Q E h=>?_) (fun cdv A outer s H vs Q E hr h=>?_)
 ·obtain⟨p,a,b,c,rfl,_⟩:=h
  rfl
 ·obtain⟨p,a,b,c,rfl,hp,q⟩:=h
  refine⟨_,aI (aT (mI (dN sK (aO (yA rfl) (by rfl) G.min Ls.boot_mn (aA (pv 0) aB)) aC (bF _)) (jZ (dN sK (aZ cK (pv 0) aC (fun _ _=>rfl)) (aZ cK (pv 0) aC (fun _ _=>rfl)) (bF _))))),?_⟩
  refine⟨_,rfl,p,a,b,c,rfl,SqT.of hp,fun m hm m1 m2 m3=>⟨_,_,rfl,rfl,_,rfl,?_⟩⟩
  refine cI (fun hc=>?_) fun hc=>?_
  ·have hc:=of_decide_eq_true hc
   refine⟨_,rfl,p,_,_,_,rfl,rfl,SqT.of hp,aJ (j:=2) rfl,_,rfl,p,_,_,_,rfl,rfl,SqT.of hp,aJ (j:=1) rfl,_,_,rfl,rfl,?_⟩
   have e:bdB a b c=decide (b<=c):=by
    by_cases z:b<=c
    ·rw [decide_eq_true z];exact bdB_t ⟨by omega,by omega,by omega,z⟩
    ·rw [decide_eq_false z];exact bdB_f fun y=>z y.2.2.2
   rw [e] at q
   exact q
  ·have hc:¬ (1<=m):=fun z=>hc (decide_eq_true z)
   rw [bdB_f fun y=>by obtain⟨y1,y2,y3,_⟩:=y;omega] at q
   exact q
theorem rws_nil (t:Str):(Builtin.Str.occurrences t ⟨#[10]⟩ 0 t.length 1).isEmpty=decide (rws t=[]):=by
 rw [PyProof.Rows.empty_one]
 have e:¬ (10 ∈ Tm.sg t)↔rws t=[]:=by
  constructor
  ·intro h
   have:=Tm.split_join (c:=10) (ps:=[t]) (by simp) (fun p hp=>by rw [List.mem_singleton.mp hp];exact h)
   unfold rws
   rw [show t=Str.join ⟨#[10]⟩ [t] from rfl,this]
   rfl
  ·intro h z
   have ne:=Tm.split_ne t 10
   unfold rws at h
   obtain⟨p,hp⟩:∃p,Txt.split t ⟨#[10]⟩=[p]:=by
    refine⟨(Txt.split t ⟨#[10]⟩).getLast ne,?_⟩
    have:=List.dropLast_concat_getLast ne
    rw [h] at this
    exact this.symm
   have j:=StrLaws.join_split t ⟨#[10]⟩
   rw [hp] at j
   have f:=StrLaws.split_free t 10 p (by rw [hp];simp)
   have j:p=t:=j
   rw [j] at f
   exact f z
 by_cases z:10 ∈ Tm.sg t
 ·rw [decide_eq_true (show 10 ∈ t.cps.toList from z),decide_eq_false fun y=>e.mpr y z]
  rfl
 ·rw [decide_eq_false (show ¬ 10 ∈ t.cps.toList from z),decide_eq_true (e.mp z)]
  rfl
def lxD:Lx->PyData
 | .lent a x b c=>.tuple [.str "lent",.int a,.str x,.int b,.int c]
 | .told a b c ns=>.tuple [.str "told",.int a,.int b,.int c,.tuple (ns.map PyData.int)]
 | .plain k ns=>.tuple (.str k::ns.map PyData.int)
def LxOk:Lx->Prop
 | .lent _ x _ _=>PyData.strOk x=true
 | .told _ _ _ _=>True
 | .plain k _=>PyData.strOk k=true
theorem LnG.ok {ws:List Str} {B:Nat} {l:Lx} (h:LnG ws l) (o:∀u ∈ ws,Tm.okS B u):LxOk l:=by
 cases l with
 | lent a x b c=>
  obtain⟨a1,b1,c1,rfl,_⟩:=h
  exact gP (o x (by simp))
 | told=>trivial
 | plain k ns=>
  obtain⟨ns',rfl,_⟩:=h
  exact gP (o k (by simp))
theorem mG {K:Frag} {H:Hp}:∀ns:List Int,jF K H (ns.map V.int) (ns.map PyData.int)
 | []=>.nil
 | n::ns=>.cons (.int n) (mG ns)
theorem wM {n:Nat}:∀ns:List Int,∀d ∈ ns.map PyData.int,Gd n d:=fun ns d hd=>by
 obtain⟨i,_,rfl⟩:=List.mem_map.mp hd
 exact Gd.int i
theorem yQ {K:Frag} {H:Hp} {p:Addr} {l:Lx} (h:nR H p l):RdV K H (.ref p) (lxD l):=by
 cases l with
 | lent a x b c=>exact .tup (SqT.of h) (.cons (.str _) (.cons (.int _) (.cons (.str _) (.cons (.int _) (.cons (.int _) .nil)))))
 | told a b c ns=>
  obtain⟨t,h1,h2⟩:=h
  exact .tup (SqT.of h1) (.cons (.str _) (.cons (.int _) (.cons (.int _) (.cons (.int _) (.cons (.tup (SqT.of h2) (mG ns)) .nil)))))
 | plain k ns=>exact .tup (SqT.of h) (.cons (.str _) (mG ns))
theorem gd_lx {l:Lx} (ok:LxOk l):Gd 2 (lxD l):=by
 cases l with
 | lent a x b c=>exact Gd.tup (n:=1) (bX (Gd.str (by decide +kernel)) (bX (Gd.int _) (bX (Gd.str ok) (bX (Gd.int _) (bX (Gd.int _) fZ)))))
 | told a b c ns=>exact Gd.tup (n:=1) (bX (Gd.str (by decide +kernel)) (bX (Gd.int _) (bX (Gd.int _) (bX (Gd.int _) (bX (Gd.tup (n:=0) (wM ns)) fZ)))))
 | plain k ns=>exact Gd.tup (n:=1) (bX (Gd.str ok) (wM ns))
def OV (H:Hp) (v:V):Option Lx->Prop
 | none=>v=.non
 | some l=>LxV H v l
theorem OV.same {H H':Hp} {v:V} {o:Option Lx} (e:aV H H') (h:OV H v o):OV H' v o:=by
 cases o with
 | none=>exact h
 | some l=>exact LxV.same e h
def ovD:Option Lx->PyData
 | none=>.none
 | some l=>lxD l
theorem uT {K:Frag} {H:Hp}:∀{xs:List V} {os:List (Option Lx)},Paired (OV H) xs os->jF K H xs (os.map ovD)
 | _,_,.nil=>.nil
 | _,none::_,.cons h t=>by
  have h:_=V.non:=h
  subst h
  exact .cons .non (uT t)
 | _,some l::_,.cons ⟨b,e,h⟩ t=>by
  subst e
  exact .cons (yQ h) (uT t)
def RO (r:Str):Option Lx->Prop
 | none=>∀l,¬ LnG (Tm.wds r) l
 | some l=>LnG (Tm.wds r) l
theorem yM:∀{rs:List Str} {os:List (Option Lx)},Paired RO rs os->none ∉ os->∃ls,os=ls.map some/\Rl rs ls
 | _,_,.nil,_=>⟨[],rfl,.nil⟩
 | _,none::_,.cons _ _,h=>absurd List.mem_cons_self h
 | _,some l::_,.cons g t,h=>by
  obtain⟨ls,rfl,hr⟩:=yM t fun z=>h (List.mem_cons_of_mem _ z)
  exact⟨l::ls,rfl,.cons g hr⟩
theorem vU:∀{rs:List Str} {os:List (Option Lx)} {ls:List Lx},Paired RO rs os->Rl rs ls->none ∉ os
 | _,_,_,.nil,.nil,h=>by cases h
 | _,o::_,_,.cons g t,.cons g' t',h=>by
  rcases List.mem_cons.mp h with z|z
  ·subst z
   exact g _ g'
  ·exact vU t t' z
theorem wA {os:List (Option Lx)}:((os.map ovD).any fun z=>z.eqv .none)=true↔none ∈ os:=by
 rw [List.any_eq_true]
 constructor
 ·rintro⟨d,hd,e⟩
  obtain⟨o,ho,rfl⟩:=List.mem_map.mp hd
  cases o with
  | none=>exact ho
  | some l=>
   refine absurd e ?_
   cases l <;> simp [ovD,lxD,PyData.eqv]
 ·intro h
  exact⟨.none,List.mem_map.mpr ⟨none,h,rfl⟩,by simp [PyData.eqv]⟩
theorem ro_ok:∀{rs:List Str} {os:List (Option Lx)},Paired RO rs os->(∀r ∈ rs,Tm.okR 90000 r)->∀d ∈ os.map ovD,Gd 2 d
 | _,_,.nil,_=>fZ
 | _,none::_,.cons _ t,h=>bX Gd.non (ro_ok t fun r hr=>h r (List.mem_cons_of_mem _ hr))
 | _,some l::_,.cons g t,h=>bX (gd_lx (LnG.ok g (Tm.wds_ok (h _ List.mem_cons_self)))) (ro_ok t fun r hr=>h r (List.mem_cons_of_mem _ hr))
theorem vZ {H:Hp}:∀{xs:List V} {ls:List Lx},Paired (OV H) xs (ls.map some)->Paired (LxV H) xs ls
 | _,[],.nil=>.nil
 | _,l::ls,.cons h t=>.cons h (vZ t)
def gC:Sp:=fun vs H Q _=>∃t:Str,vs=[.str t]/\okT t /\
 (∀ps a b c ls r H',aV H H'->TxG (rws t) ps a b c ls->wkP ps->bdP a b c->tK H' r ps a b c ls->Q (.ref r) H')/\(∀H',aV H H'->(∀ps a b c ls,¬ TxG (rws t) ps a b c ls)->Q (.str "text") H') /\
 (∀ps a b c ls H',aV H H'->TxG (rws t) ps a b c ls->¬ wkP ps->Q (.str "work") H')/\(∀ps a b c ls H',aV H H'->TxG (rws t) ps a b c ls->wkP ps->¬ bdP a b c->Q (.str "bound") H')
theorem ndLR:(["_law_row"]:List Str).Nodup:=by decide +kernel
theorem lC:bO ["_law_text","_law_rows","_law_head_here","_law_lines"] ["_law_text"] (aM jX):=⟨rfl,rfl,rfl,by decide +kernel,rfl,by decide +kernel,by decide +kernel⟩
theorem lr_rest {f fL fW fB:Addr} {fdL fdW fdB:FuncData} {cdv:Value} {A:Around} {outer:List Env} {s:Shared} {H:Hp} {E:XK} (G:Gb mg)
  (GL:aY P w K mg base CX0 2 fL fdL ["_law_row"] lA) (kL:keepIn K (.ref fL)=true) (bL:bV K fdL ["_law_row"] []) (mL:mg "_law_line_of"=some (.ref fL))
  (GW:aY P w K mg base CX0 2 fW fdW ["_law_work"] pQ) (kW:keepIn K (.ref fW)=true) (bW:bV K fdW ["_law_work"] []) (mW:mg "_law_is_work"=some (.ref fW))
  (GB:aY P w K mg base CX0 2 fB fdB ["_law_limits"] pP) (kB:keepIn K (.ref fB)=true) (bB:bV K fdB ["_law_limits"] []) (mB:mg "_law_are_limits"=some (.ref fB))
  (hr:eS 2 (A.deeper (PyProof.Rows.envOfC "_law_read" (aM jX) s.heap.objs.size f cdv))):
  ∃t,PSs (iS CX0 P w K mg base ["_law_text","_law_rows","_law_head_here","_law_lines"] "_law_read" (aM jX) f cdv A outer s H E).nox ((dA jX).drop 3) t /\
   ∀(D:jV) (x:V) (hv:V) (r0:Str) (rs:List Str) (l2:Addr) (o3:Option V) (H3:Hp),H3 l2=some (.lst (.str r0::rs.map V.str))->Tm.okR 90000 r0->(∀r ∈ rs,Tm.okR 90000 r)->rs.length<=1000 ->
    ((hv=.non/\∀ps a b c,¬ HdG (Tm.wds r0) ps a b c)\/∃ps a b c rh,hv=.ref rh/\HdG (Tm.wds r0) ps a b c/\LHAt H3 rh ps a b c) ->
    (∀ps a b c ls r H',aV H3 H'->TxG (r0::rs) ps a b c ls->wkP ps->bdP a b c->tK H' r ps a b c ls->D.rt (.ref r) H')->(∀H',aV H3 H'->(∀ps a b c ls,¬ TxG (r0::rs) ps a b c ls)->D.rt (.str "text") H') ->
    (∀ps a b c ls H',aV H3 H'->TxG (r0::rs) ps a b c ls->¬ wkP ps->D.rt (.str "work") H')->(∀ps a b c ls H',aV H3 H'->TxG (r0::rs) ps a b c ls->wkP ps->¬ bdP a b c->D.rt (.str "bound") H') ->
    t D [some x,some (.ref l2),some hv,o3] H3:=by
 refine⟨_,(aD (vW (ix:=3) lC.nd rfl (Or.inl rfl) (NB:=["_law_row"]) (n:=1) (js:=[]) (g:=dS 0) (cl:=[]) rfl (by decide +kernel) (by decide +kernel) rfl
     (dZ.of rfl bE (all_cons (fun z=>nomatch z) (all_cons (fun z=>nomatch z) (all_cons (fun z=>nomatch z) bE))) rfl (fun k j h=>absurd h (by simp)) bE)
     (iI (aQ bQ (pv 1) (aU aC) bI)) (fun C s H fp pn=>cC (i:=0) ndLR rfl (Or.inl rfl) (.inr rfl)) (fun C s H fp pn=>dF) (fun C s H fp pn=>aH GL hr rfl mL kL bL .nil aX (aA (pv 0) aB)))
   (aD (cB (PW.pt (gE (aS op_isN (pv 2) eU (bF _)) (eT (aS (op_inD hr.units) eU (pv 3) (by rfl))))) (aI (aT aF)) aW)
   (aD (cB (dL (dX (aH GW hr rfl mW kW bW .nil aX (aA (aZ cK (pv 2) aC (fun _ _=>rfl)) aB)))) (aI (aT aF)) aW)
   (aD (cB (dL (dX (aH GB hr rfl mB kB bB .nil aX (aA (aZ cK (pv 2) aC (fun _ _=>rfl)) aB)))) (aI (aT aF)) aW)
   (aI (aT (aK cU (aK cU (bZ (aA (aZ cK (pv 2) aC (fun _ _=>rfl)) aB)) (aZ cK (pv 2) aC (fun _ _=>rfl))) (bZ (aA (cF cN (by rfl) G.tuple eX (aA (pv 3) aB)) aB))))))))),?_⟩
 intro D x hv r0 rs l2 o3 H3 e2 o0 oR tc hh q1 q2 q3 q4
 have sl:sizeLine=16777216:=sizeLine_eq
 refine⟨_,rfl,_,rfl,l2,_,rfl,SqL.of e2,fun l3 h3=>?_⟩
 rw [jQ]
 obtain⟨H4,hh4,s4,e4⟩:=Ls.alo h3 (.lst (rs.map V.str))
 rw [hh4]
 have lm:(rs.map V.str).length=rs.length:=List.length_map ..
 refine⟨l3,rfl,⟨_,SqL.of e4⟩,fun acc hacc=>?_⟩
 refine⟨fun i m ys H'=>m=rs.length-i/\i<=rs.length/\(∃os,Paired RO (rs.take i) os/\Paired (OV H') ys os)/\aV H4 H'/\H' acc=some (.lst ys),⟨_,rfl,Nat.zero_le _,⟨[],.nil,.nil⟩,aG hacc,aE⟩,?_⟩
 rintro i m ys H' ⟨rfl,hi,⟨os,hR,hP⟩,sm,hA⟩
 refine⟨hA,?_⟩
 have ly:ys.length=i:=by
  have h1:=hP.length
  have h2:=hR.length
  rw [List.length_take] at h2
  omega
 by_cases hlt:i<rs.length
 ·refine .inr ⟨⟨_,_,SqL.of (sm _ _ e4),List.getElem?_eq_getElem (by omega)⟩,?_⟩
  rintro y H'' ⟨rfl,hy⟩
  have ey:=hy _ (SqL.of (sm _ _ e4))
  have ez:y=V.str rs[i]:=by
   rw [List.getElem?_map,List.getElem?_eq_getElem hlt] at ey
   exact(Option.some.inj ey).symm
  subst ez
  refine dC ?_
  refine⟨rfl,?_⟩
  refine dH ?_
  refine cZ ?_
  have mm:=List.getElem_mem hlt
  have tk:rs.take (i+1)=rs.take i++[rs[i]]:=by
   rw [List.take_add_one,List.getElem?_eq_getElem hlt]
   rfl
  have nx:∀(v:V) (o:Option Lx) (H4':Hp),aV H'' H4'->RO rs[i] o->OV H4' v o->H4' acc=some (.lst ys)/\ys.length<sizeLine/\∃m',m'<rs.length-i/\(m'=rs.length-(i+1)/\i+1<=rs.length/\(∃os,Paired RO (rs.take (i+1)) os/\Paired (OV (upd H4' acc (.lst (ys++[v])))) (ys++[v]) os)/\aV H4 (upd H4' acc (.lst (ys++[v])))/\(upd H4' acc (.lst (ys++[v]))) acc=some (.lst (ys++[v]))):=fun v o H5 s5 g hv=>by
   have hA5:=s5 _ _ hA
   have kt:∀b zs,H5 b=some (.tup zs)->(upd H5 acc (.lst (ys++[v]))) b=some (.tup zs):=fun b zs e=>by
    rw [aP (oO e hA5 (by intro z;cases z))]
    exact e
   have ko:∀{v':V} {o':Option Lx},OV H5 v' o'->OV (upd H5 acc (.lst (ys++[v]))) v' o':=fun {v' o'} h=>by
    cases o' with
    | none=>exact h
    | some l=>obtain⟨b,z1,z2⟩:=h;exact⟨b,z1,z2.tups kt⟩
   refine⟨hA5,by omega,_,by omega,rfl,hlt,⟨os++[o],?_,?_⟩,fun b o z=>?_,aE⟩
   ·rw [tk]
    exact dE hR g
   ·exact dE (cA (fun v l z=>ko (z.same s5)) hP) (ko hv)
   ·rw [aP (aL z hacc)]
    exact s5 _ _ (sm _ _ z)
  refine⟨_,rfl,rs[i],rfl,oR _ mm,fun l r5 H5 s5 gL h5=>nx _ (some l) H5 s5 gL ⟨r5,rfl,h5⟩,fun H5 s5 n=>nx _ none H5 s5 n rfl⟩
 refine .inl ⟨⟨_,SqL.of (sm _ _ e4),by omega⟩,?_⟩
 have ei:rs.take i=rs:=List.take_of_length_le (by omega)
 rw [ei] at hR
 have s34:aV H3 H':=s4.trans sm
 rcases hh with ⟨rfl,nH⟩|⟨ps,a,b,c,rh,rfl,hG,hAt⟩
 ·refine⟨_,rfl,rfl,_,rfl,jE (decide_eq_true rfl) (cZ ?_)⟩
  exact q2 _ s34 fun ps a b c ls ⟨r0',rs',z,h,_⟩=>by cases z;exact nH _ _ _ _ h
 refine⟨_,rfl,rfl,_,rfl,fY (decide_eq_false fun z=>nomatch z) ?_⟩
 have gd:=ro_ok hR oR
 refine⟨_,rfl,.none,os.map ovD,.non,.lst (SqL.of hA) (uT hP),by rw [PyData.canLay0],qS fun d hd=>(gd d hd).1,by rw [PyData.depth];decide,_,rfl,?_⟩
 refine cI (fun hc=>?_) fun hc=>?_
 ·exact q2 _ s34 fun ps a b c ls ⟨r0',rs',z,_,h⟩=>by cases z;exact vU hR h (wA.mp hc)
 obtain⟨ls,rfl,hRl⟩:=yM hR fun z=>hc (wA.mpr z)
 have hPl:=vZ hP
 have hT:TxG (r0::rs) ps a b c ls:=⟨r0,rs,rfl,hG,hRl⟩
 obtain⟨pw,pl,eh,hw,el⟩:=hAt
 have eh4:=s34 _ _ eh
 have hw4:=hw.same s34
 have el4:=s34 _ _ el
 have pl0:ps.length<=100000:=hG.few (by have:=Tm.wds_cnt r0;have:=o0.1;omega)
 refine⟨_,rfl,rh,_,_,_,rfl,rfl,SqT.of eh4,aJ (j:=0) rfl,pw,ps,rfl,hw4,pl0,fun H5 s5=>⟨_,rfl,?_⟩⟩
 have s35:=s34.trans s5
 cases cw:wkB ps with
 | false=>exact cZ (q3 _ _ _ _ _ _ s35 hT (wkB_f cw))
 | true=>
  have cw:=nS.mp cw
  refine eM ?_
  have eh5:=s5 _ _ eh4
  have el5:=s5 _ _ el4
  refine⟨_,rfl,rh,_,_,_,rfl,rfl,SqT.of eh5,aJ (j:=1) rfl,pl,a,b,c,rfl,el5,_,rfl,?_⟩
  by_cases cb:bdP a b c
  rotate_left
  ·rw [bdB_f cb]
   exact cZ (q4 _ _ _ _ _ _ s35 hT cw cb)
  rw [bdB_t cb]
  refine eM ?_
  refine⟨_,rfl,rh,_,_,_,rfl,rfl,SqT.of eh5,aJ (j:=0) rfl,by show 1<=sizeLine;decide,fun t6 h6=>?_⟩
  obtain⟨H6,hh6,s6,e6⟩:=Ls.alo h6 (.tup [.ref pw])
  rw [hh6]
  refine⟨_,rfl,rh,_,_,_,rfl,rfl,SqT.of (s6 _ _ eh5),aJ (j:=1) rfl,t6,pl,_,_,rfl,rfl,e6,s6 _ _ el5,by show 1+3<=sizeLine;decide,fun p7 H7 s7 e7=>?_⟩
  have sA7:aV H' H7:=s5.trans (s6.trans s7)
  refine⟨_,rfl,acc,_,rfl,.inl ⟨SqL.of (sA7 _ _ hA),fun p8 h8=>?_⟩⟩
  obtain⟨H8,hh8,s8,e8⟩:=Ls.alo h8 (.tup ys)
  rw [hh8]
  refine⟨by show 1<=sizeLine;decide,fun t9 h9=>?_⟩
  obtain⟨H9,hh9,s9,e9⟩:=Ls.alo h9 (.tup [.ref p8])
  rw [hh9]
  refine⟨p7,t9,_,_,rfl,rfl,s9 _ _ (s8 _ _ e7),e9,by show 4+1<=sizeLine;decide,fun r H10 s10 e10=>?_⟩
  have sB:aV H' H10:=sA7.trans (s8.trans (s9.trans s10))
  exact q1 _ _ _ _ _ r H10 (s34.trans sB) hT cw cb ⟨pw,p8,ys,e10,hw4.same sB,s10 _ _ (s9 _ _ e8),cA (fun _ _ z=>z.same sB) hPl⟩
theorem zK {f fH fL fW fB:Addr} {fd fdH fdL fdW fdB:FuncData} (F:Fun K "_law_read" "_law_read" jX f fd) (G:Gb mg)
  (GH:aY P w K mg base CX0 2 fH fdH ["_law_row"] lB) (kH:keepIn K (.ref fH)=true) (bH:bV K fdH ["_law_row"] []) (mH:mg "_law_head_of"=some (.ref fH))
  (GL:aY P w K mg base CX0 2 fL fdL ["_law_row"] lA) (kL:keepIn K (.ref fL)=true) (bL:bV K fdL ["_law_row"] []) (mL:mg "_law_line_of"=some (.ref fL))
  (GW:aY P w K mg base CX0 2 fW fdW ["_law_work"] pQ) (kW:keepIn K (.ref fW)=true) (bW:bV K fdW ["_law_work"] []) (mW:mg "_law_is_work"=some (.ref fW))
  (GB:aY P w K mg base CX0 2 fB fdB ["_law_limits"] pP) (kB:keepIn K (.ref fB)=true) (bB:bV K fdB ["_law_limits"] []) (mB:mg "_law_are_limits"=some (.ref fB)):aY P w K mg base CX0 3 f fd ["_law_text"] gC:=by
 refine F.ok lC (fun vs H Q E h=>?_) (fun cdv A outer s H vs Q E hr h=>?_)
 ·obtain⟨t,rfl,_⟩:=h
  rfl
 ·obtain⟨t,rfl,⟨tl,tr,tc⟩,q1,q2,q3,q4⟩:=h
  obtain⟨tR,hR,rest⟩:=lr_rest (f:=f) (cdv:=cdv) (A:=A) (outer:=outer) (s:=s) (H:=H) (E:=E) G GL kL bL mL GW kW bW mW GB kB bB mB hr
  refine⟨_,aD (cB (PW.pt (gE (dL (dX (aO bG (by rfl) G.isi Ls.boot_isi (aA (pv 0) (aA (gS (v:=.ty "str") (by rfl) G.str qW rfl) aB))))) (eT (aS qI aF (pv 0) (by rfl))))) (aI (aT aF)) aW)
   (aD (aN (i:=1) lC.nd rfl (Or.inl rfl) (aQ bQ (fU PySem.F.plainAttrs_str PySem.F.slot_str_split PySem.F.type_str_split gJ (pv 0) (aA aF aB)) bI (aU (fT dW aC))))
   (aD (aN (i:=2) lC.nd rfl (Or.inl rfl) (aH GH hr rfl mH kH bH .nil aX (aA (aZ aR (pv 1) aC (fun _ _=>rfl)) aB)))
   (by exact hR))) ,?_⟩
  have sl:sizeLine=16777216:=sizeLine_eq
  obtain⟨ty,hty,e⟩:=wX (K:=K) (H:=H) t
  refine⟨_,rfl,_,_,_,_,rfl,.ty "str",.inl ⟨ty,hty,e⟩,_,rfl,eM ?_⟩
  refine⟨_,rfl,_,_,rfl,rfl,_,rfl,?_⟩
  rw [c10,rws_nil,Bool.not_not]
  have nE:=Tm.split_ne t 10
  have hrw:(Txt.split t ⟨#[10]⟩).dropLast=rws t:=rfl
  have cdr:=tD (xs:=(Txt.split t ⟨#[10]⟩).map V.str) (by simpa using nE)
  rw [<- List.map_dropLast,hrw] at cdr
  generalize rws t=rows at *
  cases rows with
  | nil=>exact jE (decide_eq_true rfl) (q2 _ (aV.refl _) fun ps a b c ls ⟨r0,rs,z,_⟩=>nomatch z)
  | cons r0 rs=>
   refine fY (decide_eq_false fun z=>nomatch z) ?_
   have o0:=tr r0 List.mem_cons_self
   have oR:∀r ∈ rs,Tm.okR 90000 r:=fun r hr=>tr r (List.mem_cons_of_mem _ hr)
   have tc:rs.length<=1000:=by rw [List.length_cons] at tc;omega
   refine⟨_,rfl,rfl,_,_,rfl,rfl,by decide +kernel,by omega,fun l h1=>?_⟩
   refine⟨1,rfl,_,rfl,l,_,rfl,SqL.of aE,fun l2 h2=>?_⟩
   obtain⟨H2,hH2,s2,e2⟩:=Ls.alo h2 (HO.lst (cY ((Txt.split t ⟨#[10]⟩).map V.str) none (some (-1))))
   rw [hH2]
   rw [cdr] at e2
   have e2:H2 l2=some (.lst (.str r0::rs.map V.str)):=e2
   have s02:aV H H2:=(aG h1).trans s2
   refine⟨_,rfl,l2,_,_,_,rfl,rfl,SqL.of e2,aJ (j:=0) rfl,r0,rfl,o0,fun ps a b c rh H3 s3 hG hAt=>?_,fun H3 s3 n=>?_⟩
   ·have s03:=s02.trans s3
    exact rest _ _ _ r0 rs l2 _ H3 (s3 _ _ e2) o0 oR tc (.inr ⟨ps,a,b,c,rh,rfl,hG,hAt⟩) (fun ps a b c ls r H' s'=>q1 ps a b c ls r H' (s03.trans s')) (fun H' s'=>q2 H' (s03.trans s')) (fun ps a b c ls H' s'=>q3 ps a b c ls H' (s03.trans s')) (fun ps a b c ls H' s'=>q4 ps a b c ls H' (s03.trans s'))
   ·have s03:=s02.trans s3
    exact rest _ _ _ r0 rs l2 _ H3 (s3 _ _ e2) o0 oR tc (.inl ⟨rfl,n⟩) (fun ps a b c ls r H' s'=>q1 ps a b c ls r H' (s03.trans s')) (fun H' s'=>q2 H' (s03.trans s')) (fun ps a b c ls H' s'=>q3 ps a b c ls H' (s03.trans s')) (fun ps a b c ls H' s'=>q4 ps a b c ls H' (s03.trans s'))
def yH:Sp:=fun vs H Q _=>∃v,vs=[v]/\NoS H v/\∀H',aV H H'->Q (.str "text") H'
theorem jJ:bO ["_law_text","_law_found_here","_law_e"] ["_law_text"] (aM uR):=⟨rfl,rfl,rfl,by decide +kernel,rfl,by decide +kernel,by decide +kernel⟩
theorem zQ {f fD fW CE CN CW CB:Addr} {fd fdD fdW:FuncData} {c:Nat->Addr} (F:Fun K "_law_found" "_law_found" uR f fd) (mE:mg "LentError"=some (.ref CE))
  (eN:exmOne K (.ref CN) (.ref CE)=some true) (eW:exmOne K (.ref CW) (.ref CE)=some true) (eB:exmOne K (.ref CB) (.ref CE)=some true) (NN:Ls.Wc K c CN 17) (NW:Ls.Wc K c CW 8) (NB:Ls.Wc K c CB 0)
  (GD:aY P w K mg base (CXE P w) 6 fD fdD ["text"] (fun vs H Q E=>tY CN CW CB vs H Q E\/pK CN vs H Q E)) (kD:keepIn K (.ref fD)=true) (bD:bV K fdD ["text"] []) (mD:mg "read_text"=some (.ref fD))
  (GW:nJ P w K mg base 1 fW fdW ["_law_e"] (Ls.spWord K c)) (kW:keepIn K (.ref fW)=true) (bW:bV K fdW ["_law_e"] []) (mW:mg "_law_word"=some (.ref fW)):
  aY P w K mg base CX0 7 f fd ["_law_text"] (fun vs H Q E=>gC vs H Q E\/yH vs H Q E):=by
 refine F.ok jJ (fun vs H Q E h=>?_) (fun cdv A outer s H vs Q E hr h=>?_)
 ·rcases h with ⟨t,rfl,_⟩|⟨v,rfl,_⟩ <;> rfl
 refine⟨_,aD (aN (i:=1) jJ.nd rfl (Or.inl rfl) aF) (aD (ps_tryK (i:=2) (wk:=id) (fun σ h=>⟨h,Le.refl σ⟩) rfl jJ.nd rfl rfl ⟨rfl,rfl⟩ (by rfl) mE
   (fun pn xe E σw hp=>aI (aN (i:=1) jJ.nd rfl (Or.inl rfl) (xI GD hr rfl mD kD bD .nil hp (aA (pv 0) aB))))
   (fun ea=>aI (aN (i:=1) jJ.nd rfl (Or.inl rfl) (zC (h:=ea) GW ((hr.suite ea).mono (by decide)) rfl mW kW bW .nil (aA (pv 2) aB))))) (aI (aT (pv 1)))),?_⟩
 rcases h with ⟨t,rfl,ok,q1,q2,q3,q4⟩|⟨v,rfl,hv,q⟩
 ·refine⟨Le.refl _,_,rfl,.inl ⟨t,rfl,ok,fun ps a b c ls r H' s' g1 g2 g3 g4=>?_,fun H' s' g1=>⟨CN,rfl,eN,fun ea he=>?_⟩,fun ps a b c ls H' s' g1 g2=>⟨CW,rfl,eW,fun ea he=>?_⟩,fun ps a b c ls H' s' g1 g2 g3=>⟨CB,rfl,eB,fun ea he=>?_⟩⟩⟩
  ·exact⟨_,rfl,q1 ps a b c ls r H' s' g1 g2 g3 g4⟩
  ·obtain⟨H2,hh,s2,e0⟩:=Ls.alo he (iQ ea CN)
   rw [hh]
   exact⟨_,rfl,CN,17,rfl,e0,NN,by decide,fun H3 s3=>⟨_,rfl,q2 _ (s'.trans (s2.trans s3)) g1⟩⟩
  ·obtain⟨H2,hh,s2,e0⟩:=Ls.alo he (iQ ea CW)
   rw [hh]
   exact⟨_,rfl,CW,8,rfl,e0,NW,by decide,fun H3 s3=>⟨_,rfl,q3 _ _ _ _ _ _ (s'.trans (s2.trans s3)) g1 g2⟩⟩
  ·obtain⟨H2,hh,s2,e0⟩:=Ls.alo he (iQ ea CB)
   rw [hh]
   exact⟨_,rfl,CB,0,rfl,e0,NB,by decide,fun H3 s3=>⟨_,rfl,q4 _ _ _ _ _ _ (s'.trans (s2.trans s3)) g1 g2 g3⟩⟩
 ·refine⟨Le.refl _,_,rfl,.inr ⟨v,rfl,hv,CN,rfl,eN,fun ea he=>?_⟩⟩
  obtain⟨H2,hh,s2,e0⟩:=Ls.alo he (iQ ea CN)
  rw [hh]
  exact⟨_,rfl,CN,17,rfl,e0,NN,by decide,fun H3 s3=>⟨_,rfl,q _ (s2.trans s3)⟩⟩
def jH:Sp:=fun vs H Q _=>∃x:Str,vs=[.str x]/\Tm.okR 90000 x/\∀b H',aV H H'->Q (.bl b) H'
theorem zV:(["_law_low","_law_high"]:List Str).Nodup:=by decide +kernel
theorem scBey:bO ["_law_row","_law_head_here"] ["_law_row"] (aM qD):=⟨rfl,rfl,rfl,by decide +kernel,rfl,by decide +kernel,by decide +kernel⟩
theorem xK {f fH:Addr} {fd fdH:FuncData} (F:Fun K "_law_is_beyond" "_law_is_beyond" qD f fd) (G:Gb mg)
  (GH:aY P w K mg base CX0 2 fH fdH ["_law_row"] lB) (kH:keepIn K (.ref fH)=true) (bH:bV K fdH ["_law_row"] []) (mH:mg "_law_head_of"=some (.ref fH)):aY P w K mg base CX0 3 f fd ["_law_row"] jH:=by
 refine F.ok scBey (fun vs H Q E h=>?_) (fun cdv A outer s H vs Q E hr h=>?_)
 ·obtain⟨t,rfl,_⟩:=h
  rfl
 ·obtain⟨x,rfl,hx,q⟩:=h
  refine⟨_,aD (aN (i:=1) scBey.nd rfl (Or.inl rfl) (aH GH hr rfl mH kH bH .nil aX (aA (pv 0) aB)))
   (aI (aT (mI (dN op_notN (pv 1) eU (bF _)) (jZ (dN sJ (aO (AaW rfl) (by rfl) G.sum Ls.boot_sum (aA (eP (NB:=["_law_low","_law_high"]) (n:=2) (js:=[]) (cl:=[]) (g:=gTup K 2 (sX (dS 0) (sX (dS 1) gNil))) rfl (by decide +kernel) (by decide +kernel) rfl
     (dZ.of rfl bE (all_cons (fun z=>nomatch z) (all_cons (fun z=>nomatch z) (all_cons (fun z=>nomatch z) (all_cons (fun z=>nomatch z) bE)))) rfl (fun k j h=>absurd h (by simp)) bE)
     (qG (aZ cK (pv 1) aC (fun _ _=>rfl))) (fun C s H fp pn=>qH (n:=2) rfl (dR (cC (i:=0) zV rfl (Or.inl rfl) (.inr rfl)) (dR (cC (i:=1) zV rfl (Or.inl rfl) (.inr rfl)) jK))) (fun C s H fp pn=>dF)
     (fun C s H fp pn=>aO (oZ rfl) (by rfl) G.max Ls.boot_mx (aA aC (aA (aK eV (pv 1) (pv 0)) aB)))) aB)) aC (bF _)))))),?_⟩
  have sl:sizeLine=16777216:=sizeLine_eq
  refine⟨_,rfl,x,rfl,hx,fun ps a b c rh H1 s1 hG hAt=>?_,fun H1 s1 n=>?_⟩
  rotate_left
  ·exact⟨_,rfl,rfl,_,rfl,fY rfl (q _ _ s1)⟩
  obtain⟨pw,pl,eh,⟨xs,hx1,hp⟩,el⟩:=hAt
  refine⟨_,rfl,rfl,_,rfl,jE rfl ?_⟩
  have pl0:ps.length<=100000:=hG.few (by have:=Tm.wds_cnt x;have:=hx.1;omega)
  have lx:xs.length=ps.length:=hp.length
  refine⟨_,rfl,rh,_,_,_,rfl,rfl,SqT.of eh,aJ (j:=0) rfl,pw,rfl,⟨_,SqT.of hx1⟩,fun acc hacc=>?_⟩
  refine⟨fun i m ys H'=>m=xs.length-i/\i<=xs.length/\ys.length=i/\(∃ns:List Int,ys=ns.map V.int)/\aV H1 H'/\H' acc=some (.lst ys),⟨_,rfl,Nat.zero_le _,rfl,⟨[],rfl⟩,aG hacc,aE⟩,?_⟩
  rintro i m ys H' ⟨rfl,hi,ly,⟨ns,rfl⟩,sm,hA⟩
  refine⟨hA,?_⟩
  by_cases hlt:i<xs.length
  ·refine .inr ⟨⟨_,_,SqT.of (sm _ _ hx1),List.getElem?_eq_getElem hlt⟩,?_⟩
   rintro y H'' ⟨rfl,hy⟩
   have ey:=hy _ (SqT.of (sm _ _ hx1))
   obtain⟨pq,_,b,rfl,hb⟩:=fG hp ey
   refine⟨b,_,rfl,SqT.of (sm _ _ hb),rfl,_,_,rfl,_,_,rfl,rfl,rfl,?_⟩
   refine dH ?_
   refine cZ ?_
   refine⟨_,rfl,_,rfl,_,_,rfl,rfl,_,_,rfl,hA,by omega,_,?_,rfl,hlt,?_,⟨ns++[_],by rw [List.map_append];rfl⟩,fun b o z=>?_,aE⟩
   ·omega
   ·rw [List.length_append,ly];rfl
   ·rw [aP (aL z hacc)]
    exact sm _ _ z
  ·refine .inl ⟨⟨_,SqT.of (sm _ _ hx1),by omega⟩,?_⟩
   exact⟨acc,ns,rfl,SqL.of hA,_,_,rfl,rfl,q _ _ (s1.trans sm)⟩
def tlS (ws:List Str):Nat:=(ws.map fun u=>u.length).sum+ws.length
theorem eC (a b:List Str):tlS (a++b)=tlS a+tlS b:=by
 unfold tlS
 rw [List.map_append,List.sum_append,List.length_append]
 omega
theorem kY (k:Nat) (ws:List Str):tlS (ws.take k)<=tlS ws:=by
 have:=eC (ws.take k) (ws.drop k)
 rw [List.take_append_drop] at this
 omega
theorem pH (k:Nat) (ws:List Str):tlS (ws.drop k)<=tlS ws:=by
 have:=eC (ws.take k) (ws.drop k)
 rw [List.take_append_drop] at this
 omega
theorem lQ (u:Str):tlS [u]=u.length+1:=by
 unfold tlS
 simp
theorem vI:∀ws:List Str,(Str.join ⟨#[32]⟩ ws).length<=tlS ws
 | []=>Nat.zero_le _
 | [u]=>by
  rw [lQ]
  show u.length<=_
  omega
 | u::v::r=>by
  have:=vI (v::r)
  rw [Tm.join_two,Tm.len_app,Tm.len_app,show u::v::r=[u]++(v::r) from rfl,eC,lQ]
  have:(⟨#[32]⟩:Str).length=1:=rfl
  omega
theorem rH:∀{ws:List Str},ws≠[]->tlS ws=(Str.join ⟨#[32]⟩ ws).length+1
 | [],h=>absurd rfl h
 | [u],_=>by
  rw [lQ]
  rfl
 | u::v::r,_=>by
  have:=rH (ws:=v::r) (by simp)
  rw [Tm.join_two,Tm.len_app,Tm.len_app,show u::v::r=[u]++(v::r) from rfl,eC,lQ]
  have:(⟨#[32]⟩:Str).length=1:=rfl
  omega
def okW (ws:List Str):Prop:=∀u ∈ ws,∀c ∈ Tm.sg u,33<=c/\c<=126
theorem okW.app {a b:List Str} (h:okW a) (h':okW b):okW (a++b):=fun u hu=>(List.mem_append.mp hu).elim (h u) (h' u)
theorem okW.take {a:List Str} {k:Nat} (h:okW a):okW (a.take k):=fun u hu=>h u (List.mem_of_mem_take hu)
theorem okW.drop {a:List Str} {k:Nat} (h:okW a):okW (a.drop k):=fun u hu=>h u (List.mem_of_mem_drop hu)
theorem okW.one {u:Str} (h:∀c ∈ Tm.sg u,33<=c/\c<=126):okW [u]:=fun v hv=>by cases List.mem_singleton.mp hv;exact h
def okB (u:Str):Bool:=decide (u.length<=30) && (Tm.sg u).all fun c=>decide (33<=c) && decide (c<=126)
theorem wF {u:Str} (h:okB u=true):u.length<=30/\∀c ∈ Tm.sg u,33<=c/\c<=126:=by
 unfold okB at h
 rw [Bool.and_eq_true,decide_eq_true_eq,List.all_eq_true] at h
 refine⟨h.1,fun c hc=>?_⟩
 have:=h.2 c hc
 rw [Bool.and_eq_true,decide_eq_true_eq,decide_eq_true_eq] at this
 exact this
def sA:List Str:=["0","-0","05","+5","5.0","x","-",kU "1" 18,kU "1" 19,"-"++kU "9" 18,"span","every","least"]
def sB:List Str:=["work","lent","told","back","cut","join","ann","","-1","1","7","Lent","--1","1-","~"]
def sC (x:Str):List Str:=["1_0","_1","1_",x]
theorem sAB_ok:(sA++sB).all okB=true:=by decide +kernel
theorem some_ok {x:Str} (h:Tm.wdB x=true):∀z ∈ (sA++sB)++sC x,z.length<=30/\∀c ∈ Tm.sg z,33<=c/\c<=126:=fun z hz=>by
 rcases List.mem_append.mp hz with hz|hz
 ·exact wF (List.all_eq_true.mp sAB_ok z hz)
 ·unfold sC at hz
  simp only [List.mem_cons,List.not_mem_nil,or_false] at hz
  rcases hz with rfl|rfl|rfl|rfl
  ·exact wF (by decide +kernel)
  ·exact wF (by decide +kernel)
  ·exact wF (by decide +kernel)
  ·have:=Tm.wd_iff.mp h
   exact⟨this.le,this.all⟩
def spSpW:Sp:=fun vs H Q _=>∃(w p:Addr) (ws:List Str),vs=[.ref w,.ref p]/\Wl H w/\p≠w/\H p=some (.lst (ws.map V.str))/\ws≠[]/\ws.length<=100000/\okW ws/\∀r ws' H',Kp w H H'->H' r=some (.lst (ws'.map V.str))->okW ws'->tlS ws'<=2 * tlS ws+31->Q (.ref r) H'
theorem jI:bO ["_law_well_here","_law_words","_law_at","_law_some","_law_way","_law_other","_law_rest","_law_odd"] ["_law_well_here","_law_words"] (aM sSpW):=⟨rfl,rfl,rfl,by decide +kernel,rfl,by decide +kernel,by decide +kernel⟩
theorem ok_spw {f fD fA:Addr} {fd fdD fdA:FuncData} (F:Fun K "_law_spoilt_words" "_law_spoilt_words" sSpW f fd) (G:Gb mg)
  (GD:aY P w K mg base CX0 2 fD fdD ["_law_well_here","_law_most"] eD) (kD:keepIn K (.ref fD)=true) (bD:bV K fdD ["_law_well_here","_law_most"] []) (mD:mg "_law_draw"=some (.ref fD))
  (GA:aY P w K mg base CX0 2 fA fdA ["_law_well_here"] spWord) (kA:keepIn K (.ref fA)=true) (bA:bV K fdA ["_law_well_here"] []) (mA:mg "_law_any_word"=some (.ref fA)):aY P w K mg base CX0 3 f fd ["_law_well_here","_law_words"] spSpW:=by
 refine F.ok jI (fun vs H Q E h=>?_) (fun cdv A outer s H vs Q E hr h=>?_)
 ·obtain⟨w',p,ws,rfl,_⟩:=h
  rfl
 ·obtain⟨wl,p,ws,rfl,hw,npw,hp,wne,wl0,okw,q⟩:=h
  refine⟨_,aD (aN (i:=2) jI.nd rfl (Or.inl rfl) (aH GD hr rfl mD kD bD .nil aX (aA (pv 0) (aA (aO bJ (by rfl) G.len PySem.boot_len (aA (pv 1) aB)) aB))))
   (aD (aN (i:=3) jI.nd rfl (Or.inl rfl) (jL (pcc aF (pcc aF (pcc aF (pcc aF (pcc aF (pcc aF (pcc aF (pcc (aK qJ aF aC) (pcc (aK qJ aF aC) (pcc (aK dM aF (aK qJ aF aC)) (pcc aF (pcc aF (pcc aF pcn)))))))))))))))
   (aD (aN (i:=3) jI.nd rfl (Or.inl rfl) (aK cE (pv 3) (jL (pcc aF (pcc aF (pcc aF (pcc aF (pcc aF (pcc aF (pcc aF (pcc aF (pcc aF (pcc aF (pcc aF (pcc aF (pcc aF (pcc aF (pcc aF pcn))))))))))))))))))
   (aD (aN (i:=3) jI.nd rfl (Or.inl rfl) (aK cE (pv 3) (bU (aA aF (aA aF (aA aF (aA (aH GA hr rfl mA kA bA .nil aX (aA (pv 0) aB)) aB)))))))
   (aD (aN (i:=4) jI.nd rfl (Or.inl rfl) (aH GD hr rfl mD kD bD .nil aX (aA (pv 0) (aA aC aB))))
   (aD (cB (aS dB (pv 4) aC (bF _)) (aI (aT (aK cE (aQ bQ (pv 1) bI (aU (pv 2))) (aQ bQ (pv 1) (aU (aK cM (pv 2) aC)) bI)))) aW)
   (aD (cB (aS dB (pv 4) aC (bF _)) (aI (aT (aK cE (aQ bQ (pv 1) bI (aU (aK cM (pv 2) aC))) (aQ bQ (pv 1) (aU (pv 2)) bI)))) aW)
   (aD (cB (aS dB (pv 4) aC (bF _)) (aD (aN (i:=5) jI.nd rfl (Or.inl rfl) (aH GD hr rfl mD kD bD .nil aX (aA (pv 0) (aA (aO bJ (by rfl) G.len PySem.boot_len (aA (pv 1) aB)) aB))))
     (aD (aN (i:=6) jI.nd rfl (Or.inl rfl) (aK cE (aQ bQ (pv 1) bI (aU (pv 2))) (aQ bQ (pv 1) (aU (aK cM (pv 2) aC)) bI)))
     (aI (aT (aK cE (aK cE (aQ bQ (pv 6) bI (aU (pv 5))) (bU (aA (aZ aR (pv 1) (pv 2) (fun _ _=>rfl)) aB))) (aQ bQ (pv 6) (aU (pv 5)) bI)))))) aW)
   (aD (aN (i:=7) jI.nd rfl (Or.inl rfl) (aZ aR (pv 3) (aH GD hr rfl mD kD bD .nil aX (aA (pv 0) (aA aC aB))) (fun _ _=>rfl)))
   (aI (aT (aK cE (aK cE (aQ bQ (pv 1) bI (aU (pv 2))) (bU (aA (pv 7) aB))) (aQ bQ (pv 1) (aU (aK cM (pv 2) (cF gO (by rfl) G.int gU (aA (dN sJ (pv 4) aC (bF _)) aB)))) bI)))))))))))),?_⟩
  have sl:sizeLine=16777216:=sizeLine_eq
  have n1:1<=ws.length:=by
   cases ws with
   | nil=>exact absurd rfl wne
   | cons a t=>rw [List.length_cons];omega
  have lm:(ws.map V.str).length=ws.length:=List.length_map ..
  refine⟨_,rfl,_,rfl,p,_,rfl,.inl (SqL.of hp),wl,_,rfl,hw,by rw [lm];omega,by rw [lm];omega,fun at_ H1 k1 a0 a1=>?_⟩
  rw [lm] at a1
  obtain⟨k,rfl⟩:∃k:Nat,at_=(k:Int):=⟨at_.toNat,by omega⟩
  have kl:k<ws.length:=by omega
  have hp1:=k1.at_ _ _ npw hp
  have dd:(Str.ofString "1").length=1:=by decide +kernel
  have d9:(Str.ofString "9").length=1:=by decide +kernel
  refine⟨"1",18,rfl,rfl,by decide,by decide,dd,"1",19,rfl,rfl,by decide,by decide,dd,"9",18,rfl,rfl,by decide,by decide,d9,_,_,rfl,rfl,by rw [rQ,d9,show (Str.ofString "-").length=1 by decide +kernel];omega,by show 13<=sizeLine;decide,fun l1 h1=>?_⟩
  obtain⟨H2,hh2,s2,e2⟩:=Ls.alo h1 (.lst (sA.map V.str))
  have hh2:upd H1 l1 (.lst [.str "0",.str "-0",.str "05",.str "+5",.str "5.0",.str "x",.str "-",.str (kU "1" 18),.str (kU "1" 19),.str ("-"++kU "9" 18),.str "span",.str "every",.str "least"])=H2:=hh2
  rw [hh2]
  refine⟨_,rfl,by show 15<=sizeLine;decide,fun l2 h2=>?_⟩
  obtain⟨H3,hh3,s3,e3⟩:=Ls.alo h2 (.lst (sB.map V.str))
  have hh3:upd H2 l2 (.lst [.str "work",.str "lent",.str "told",.str "back",.str "cut",.str "join",.str "ann",.str "",.str "-1",.str "1",.str "7",.str "Lent",.str "--1",.str "1-",.str "~"])=H3:=hh3
  rw [hh3]
  refine⟨l1,l2,_,_,rfl,rfl,s3 _ _ e2,e3,by show 13+15<=sizeLine;decide,fun l3 h3=>?_⟩
  rw [<- List.map_append]
  obtain⟨H4,hh4,s4,e4⟩:=Ls.alo h3 (.lst ((sA++sB).map V.str))
  rw [hh4]
  have k4:Kp wl H H4:=k1.same (s2.trans (s3.trans s4))
  have hp4:H4 p=some (.lst (ws.map V.str)):=s4 _ _ (s3 _ _ (s2 _ _ hp1))
  have n3:l3≠wl:=fun z=>by
   have:=(k1.same (s2.trans s3)).wl
   obtain⟨a,b,c,z'⟩:=this
   rw [<- z,h3] at z'
   cases z'
  refine⟨_,rfl,_,rfl,wl,rfl,k4.wl,fun x H5 k5 wx=>⟨by show 4<=sizeLine;decide,fun l4 h4=>?_⟩⟩
  obtain⟨H6,hh6,s6,e6⟩:=Ls.alo h4 (.lst ((sC x).map V.str))
  have hh6:upd H5 l4 (.lst [.str "1_0",.str "_1",.str "1_",.str x])=H6:=hh6
  rw [hh6]
  have e36:H6 l3=some (.lst ((sA++sB).map V.str)):=s6 _ _ (k5.at_ _ _ n3 e4)
  refine⟨l3,l4,_,_,rfl,rfl,e36,e6,by show 28+4<=sizeLine;decide,fun l5 h5=>?_⟩
  rw [<- List.map_append]
  obtain⟨H7,hh7,s7,e7⟩:=Ls.alo h5 (.lst (((sA++sB)++sC x).map V.str))
  rw [hh7]
  have k7:Kp wl H H7:=(k4.trans k5).same (s6.trans s7)
  have n5:l5≠wl:=fun z=>by
   have:=((k4.trans k5).same s6).wl
   obtain⟨a,b,c,z'⟩:=this
   rw [<- z,h5] at z'
   cases z'
  refine⟨_,rfl,wl,7,rfl,k7.wl,by decide,by decide,fun way H8 k8 w0 w1=>?_⟩
  have kp8:=k7.trans k8
  have hp8:H8 p=some (.lst (ws.map V.str)):=kp8.at_ _ _ npw hp
  have e8:=k8.at_ _ _ n5 e7
  have okS':=some_ok wx
  have cT:∀j:Nat,cY (ws.map V.str) none (some (j:Int))=(ws.take j).map V.str:=fun j=>by rw [gM,List.map_take]
  have cD:∀j:Nat,cY (ws.map V.str) (some (j:Int)) none=(ws.drop j).map V.str:=fun j=>by rw [gN,List.map_drop]
  have cT1:cY (ws.map V.str) none (some ((k:Int)+1))=(ws.take (k+1)).map V.str:=cT (k+1)
  have cD1:cY (ws.map V.str) (some ((k:Int)+1)) none=(ws.drop (k+1)).map V.str:=cD (k+1)
  have lT:∀j:Nat,((ws.take j).map V.str).length<=100000:=fun j=>by rw [List.length_map,List.length_take];omega
  have lD:∀j:Nat,((ws.drop j).map V.str).length<=100000:=fun j=>by rw [List.length_map,List.length_drop];omega
  refine⟨_,rfl,rfl,_,rfl,cI (fun c0=>?_) fun c0=>?_⟩
  ·refine⟨_,rfl,_,rfl,_,rfl,p,_,rfl,SqL.of hp8,fun l6 h6=>?_⟩
   rw [cT k]
   obtain⟨H9,hh9,s9,e9⟩:=Ls.alo h6 (.lst ((ws.take k).map V.str))
   rw [hh9]
   refine⟨_,rfl,_,rfl,_,_,rfl,rfl,_,rfl,p,_,rfl,SqL.of (s9 _ _ hp8),fun l7 h7=>?_⟩
   rw [cD1]
   obtain⟨H10,hh10,s10,e10⟩:=Ls.alo h7 (.lst ((ws.drop (k+1)).map V.str))
   rw [hh10]
   have:=lT k
   have:=lD (k+1)
   refine⟨l6,l7,_,_,rfl,rfl,s10 _ _ e9,e10,by omega,fun l8 h8=>?_⟩
   rw [<- List.map_append]
   refine q l8 _ _ (kp8.same (s9.trans (s10.trans (aG h8)))) aE (okw.take.app okw.drop) ?_
   rw [eC]
   have:=kY k ws
   have:=pH (k+1) ws
   omega
  refine⟨_,rfl,rfl,_,rfl,cI (fun c1=>?_) fun c1=>?_⟩
  ·refine⟨_,rfl,_,rfl,_,_,rfl,rfl,_,rfl,p,_,rfl,SqL.of hp8,fun l6 h6=>?_⟩
   rw [cT1]
   obtain⟨H9,hh9,s9,e9⟩:=Ls.alo h6 (.lst ((ws.take (k+1)).map V.str))
   rw [hh9]
   refine⟨_,rfl,_,rfl,_,rfl,p,_,rfl,SqL.of (s9 _ _ hp8),fun l7 h7=>?_⟩
   rw [cD k]
   obtain⟨H10,hh10,s10,e10⟩:=Ls.alo h7 (.lst ((ws.drop k).map V.str))
   rw [hh10]
   have:=lT (k+1)
   have:=lD k
   refine⟨l6,l7,_,_,rfl,rfl,s10 _ _ e9,e10,by omega,fun l8 h8=>?_⟩
   rw [<- List.map_append]
   refine q l8 _ _ (kp8.same (s9.trans (s10.trans (aG h8)))) aE (okw.take.app okw.drop) ?_
   rw [eC]
   have:=kY (k+1) ws
   have:=pH k ws
   omega
  refine⟨_,rfl,rfl,_,rfl,cI (fun c2=>?_) fun c2=>?_⟩
  ·refine⟨_,rfl,_,rfl,p,_,rfl,.inl (SqL.of hp8),wl,_,rfl,kp8.wl,by rw [lm];omega,by rw [lm];omega,fun o H9 k9 o0 o1=>?_⟩
   obtain⟨j,rfl⟩:∃j:Nat,o=(j:Int):=⟨o.toNat,by omega⟩
   have hp9:=k9.at_ _ _ npw hp8
   refine⟨_,rfl,_,rfl,_,rfl,p,_,rfl,SqL.of hp9,fun l6 h6=>?_⟩
   rw [cT k]
   obtain⟨H10,hh10,s10,e10⟩:=Ls.alo h6 (.lst ((ws.take k).map V.str))
   rw [hh10]
   refine⟨_,rfl,_,rfl,_,_,rfl,rfl,_,rfl,p,_,rfl,SqL.of (s10 _ _ hp9),fun l7 h7=>?_⟩
   rw [cD1]
   obtain⟨H11,hh11,s11,e11⟩:=Ls.alo h7 (.lst ((ws.drop (k+1)).map V.str))
   rw [hh11]
   have t1:=lT k
   have t2:=lD (k+1)
   refine⟨l6,l7,_,_,rfl,rfl,s11 _ _ e10,e11,by omega,fun l8 h8=>?_⟩
   rw [<- List.map_append]
   generalize hrest:ws.take k++ws.drop (k+1)=rest at *
   have lr:rest.length<=200000:=by
    rw [<- hrest,List.length_append]
    rw [List.length_map] at t1 t2
    omega
   have okr:okW rest:=by rw [<- hrest];exact okw.take.app okw.drop
   have tr:tlS rest+tlS [ws[k]]<=2 * tlS ws:=by
    have a1:=kY k ws
    have a2:tlS ws=tlS (ws.take k)+tlS (ws.drop k):=by rw [<- eC,List.take_append_drop]
    have a3:ws.drop k=[ws[k]]++ws.drop (k+1):=List.drop_eq_getElem_cons kl
    rw [a3,eC] at a2
    rw [<- hrest,eC]
    omega
   obtain⟨H12,hh12,s12,e12⟩:=Ls.alo h8 (.lst (rest.map V.str))
   rw [hh12]
   have rT:cY (rest.map V.str) none (some (j:Int))=(rest.take j).map V.str:=by rw [gM,List.map_take]
   have rD:cY (rest.map V.str) (some (j:Int)) none=(rest.drop j).map V.str:=by rw [gN,List.map_drop]
   refine⟨_,rfl,_,rfl,_,rfl,l8,_,rfl,SqL.of e12,fun l9 h9=>?_⟩
   rw [rT]
   obtain⟨H13,hh13,s13,e13⟩:=Ls.alo h9 (.lst ((rest.take j).map V.str))
   rw [hh13]
   have hp13:=s13 _ _ (s12 _ _ (s11 _ _ (s10 _ _ hp9)))
   refine⟨_,rfl,_,rfl,p,_,_,_,rfl,rfl,SqL.of hp13,aJ (j:=k) (by rw [List.getElem?_map,List.getElem?_eq_getElem kl];rfl),by show 1<=sizeLine;decide,fun l10 h10=>?_⟩
   obtain⟨H14,hh14,s14,e14⟩:=Ls.alo h10 (.lst ([ws[k]].map V.str))
   have hh14:upd H13 l10 (.lst [.str ws[k]])=H14:=hh14
   rw [hh14]
   have u1:((rest.take j).map V.str).length<=200000:=by rw [List.length_map,List.length_take];omega
   refine⟨l9,l10,_,_,rfl,rfl,s14 _ _ e13,e14,by show _+1<=sizeLine;omega,fun l11 h11=>?_⟩
   rw [<- List.map_append]
   obtain⟨H15,hh15,s15,e15⟩:=Ls.alo h11 (.lst ((rest.take j++[ws[k]]).map V.str))
   rw [hh15]
   refine⟨_,rfl,_,rfl,_,rfl,l8,_,rfl,SqL.of (s15 _ _ (s14 _ _ (s13 _ _ e12))),fun l12 h12=>?_⟩
   rw [rD]
   obtain⟨H16,hh16,s16,e16⟩:=Ls.alo h12 (.lst ((rest.drop j).map V.str))
   rw [hh16]
   refine⟨l11,l12,_,_,rfl,rfl,s16 _ _ e15,e16,by rw [List.length_map,List.length_append,List.length_take,List.length_map,List.length_drop];show _+1+_<=sizeLine;omega,fun l13 h13=>?_⟩
   rw [<- List.map_append]
   refine q l13 _ _ ((kp8.trans k9).same (s10.trans (s11.trans (s12.trans (s13.trans (s14.trans (s15.trans (s16.trans (aG h13))))))))) aE ((okr.take.app (okW.one fun c hc=>okw _ (List.getElem_mem kl) c hc)).app okr.drop) ?_
   rw [eC,eC]
   have a2:tlS rest=tlS (rest.take j)+tlS (rest.drop j):=by rw [<- eC,List.take_append_drop]
   omega
  ·refine⟨_,rfl,_,rfl,wl,32,rfl,kp8.wl,by decide,by decide,fun o H9 k9 o0 o1=>?_⟩
   obtain⟨z,hz,ez⟩:=oG (ns:=(sA++sB)++sC x) o0 (by show o<32;exact o1)
   refine⟨l5,_,_,_,rfl,rfl,SqL.of (k9.at_ _ _ n5 e8),ez,?_⟩
   obtain⟨z1,z2⟩:=okS' z hz
   have hp9:=k9.at_ _ _ npw hp8
   refine⟨_,rfl,_,rfl,_,rfl,p,_,rfl,SqL.of hp9,fun l6 h6=>?_⟩
   rw [cT k]
   obtain⟨H10,hh10,s10,e10⟩:=Ls.alo h6 (.lst ((ws.take k).map V.str))
   rw [hh10]
   refine⟨_,rfl,by show 1<=sizeLine;decide,fun l7 h7=>?_⟩
   obtain⟨H11,hh11,s11,e11⟩:=Ls.alo h7 (.lst ([z].map V.str))
   have hh11:upd H10 l7 (.lst [.str z])=H11:=hh11
   rw [hh11]
   have t1:=lT k
   refine⟨l6,l7,_,_,rfl,rfl,s11 _ _ e10,e11,by show _+1<=sizeLine;omega,fun l8 h8=>?_⟩
   rw [<- List.map_append]
   obtain⟨H12,hh12,s12,e12⟩:=Ls.alo h8 (.lst ((ws.take k++[z]).map V.str))
   rw [hh12]
   refine⟨_,rfl,_,rfl,_,rfl,_,_,rfl,rfl,.inr ⟨_,rfl,_,_,rfl,rfl,_,rfl,p,_,rfl,SqL.of (s12 _ _ (s11 _ _ (s10 _ _ hp9))),fun l9 h9=>?_⟩⟩
   obtain⟨j,hj⟩:∃j:Nat,(k:Int)+(if decide (way > 3)=true then 1 else 0)=(j:Int):=by
    split
    ·exact⟨k+1,rfl⟩
    ·exact⟨k,by omega⟩
   rw [hj,cD j]
   obtain⟨H13,hh13,s13,e13⟩:=Ls.alo h9 (.lst ((ws.drop j).map V.str))
   rw [hh13]
   have t2:=lD j
   rw [List.length_map] at t1 t2
   refine⟨l8,l9,_,_,rfl,rfl,s13 _ _ e12,e13,by rw [List.length_map,List.length_append,List.length_map];show _+1+_<=sizeLine;omega,fun l10 h10=>?_⟩
   rw [<- List.map_append]
   refine q l10 _ _ ((kp8.trans k9).same (s10.trans (s11.trans (s12.trans (s13.trans (aG h10)))))) aE ((okw.take.app (okW.one z2)).app okw.drop) ?_
   rw [eC,eC,lQ]
   have:=kY k ws
   have:=pH j ws
   omega
theorem jR (rows:List Str) (lo hi:Option Int):∃ys:List Str,cY (rows.map V.str) lo hi=ys.map V.str/\(∀y ∈ ys,y ∈ rows)/\ys.length<=rows.length:=by
 refine⟨(rows.drop (HT.sIx (rows.map V.str).length 0 lo)).take (HT.sIx (rows.map V.str).length (rows.map V.str).length hi-HT.sIx (rows.map V.str).length 0 lo),?_,fun y hy=>List.mem_of_mem_drop (List.mem_of_mem_take hy),?_⟩
 ·unfold cY
  rw [List.map_take,List.map_drop]
 ·rw [List.length_take,List.length_drop]
  omega
def dP (M:Nat) (rows:List Str):Prop:=∀r ∈ rows,Tm.okR M r
theorem dP.app {M:Nat} {a b:List Str} (h:dP M a) (h':dP M b):dP M (a++b):=fun u hu=>(List.mem_append.mp hu).elim (h u) (h' u)
theorem dP.one {M:Nat} {u:Str} (h:Tm.okR M u):dP M [u]:=fun v hv=>by cases List.mem_singleton.mp hv;exact h
theorem lH {M N:Nat} {a b:Str} (h:Tm.okR M a) (h':Tm.okR N b) {L:Nat} (l:M+N<=L):Tm.okR L (a++b):=by
 refine⟨by rw [Tm.len_app];have:=h.1;have:=h'.1;omega,fun c hc=>?_⟩
 rw [Tm.sg_app] at hc
 exact(List.mem_append.mp hc).elim (h.2 c) (h'.2 c)
theorem eQ {M N:Nat} {a:Str} (h:Tm.okR M a) (l:M<=N):Tm.okR N a:=⟨Nat.le_trans h.1 l,h.2⟩
theorem kF:Tm.okR 1 ⟨#[32]⟩:=⟨by decide,fun c hc=>by
 have:c=32:=by simpa [Tm.sg] using hc
 omega⟩
theorem fI {M:Nat}:Tm.okR M (Str.ofString ""):=⟨by rw [show (Str.ofString "").length=0 by decide +kernel];omega,fun c hc=>by rw [show Tm.sg (Str.ofString "")=[] by decide +kernel] at hc;cases hc⟩
def okRB (u:Str):Bool:=decide (u.length<=10) && (Tm.sg u).all fun c=>decide (32<=c) && decide (c<=126)
theorem okRB_t {u:Str} (h:okRB u=true):Tm.okR 10 u:=by
 unfold okRB at h
 rw [Bool.and_eq_true,decide_eq_true_eq,List.all_eq_true] at h
 refine⟨h.1,fun c hc=>?_⟩
 have:=h.2 c hc
 rw [Bool.and_eq_true,decide_eq_true_eq,decide_eq_true_eq] at this
 exact this
def s3:List Str:=[""," ","  ","join","work","join 0 "]
theorem s3_ok:s3.all okRB=true:=by decide +kernel
def spSpR:Sp:=fun vs H Q _=>∃(w p:Addr) (rows:List Str) (M:Nat),vs=[.ref w,.ref p]/\Wl H w/\p≠w/\H p=some (.lst (rows.map V.str))/\rows≠[]/\rows.length<=200/\dP M rows/\M<=40000 /\
 ∀r rows' H',Kp w H H'->H' r=some (.lst (rows'.map V.str))->dP (2 * M+40) rows'->rows'.length<=2 * rows.length+1->Q (.ref r) H'
theorem pick0 {ys:List Str}:∃z,atI ((ys++[Str.ofString ""]).map V.str) 0=some (.str z)/\(z ∈ ys\/z=Str.ofString ""):=by
 cases ys with
 | nil=>exact⟨_,aJ (j:=0) rfl,.inr rfl⟩
 | cons a t=>exact⟨a,aJ (j:=0) rfl,.inl List.mem_cons_self⟩
theorem oD:bO ["_law_well_here","_law_rows","_law_at","_law_other","_law_way","_law_rest","_law_row"] ["_law_well_here","_law_rows"] (aM sSpR):=⟨rfl,rfl,rfl,by decide +kernel,rfl,by decide +kernel,by decide +kernel⟩
theorem ok_spr {f fD fS:Addr} {fd fdD fdS:FuncData} (F:Fun K "_law_spoilt_rows" "_law_spoilt_rows" sSpR f fd) (G:Gb mg)
  (GD:aY P w K mg base CX0 3 fD fdD ["_law_well_here","_law_most"] eD) (kD:keepIn K (.ref fD)=true) (bD:bV K fdD ["_law_well_here","_law_most"] []) (mD:mg "_law_draw"=some (.ref fD))
  (GS:aY P w K mg base CX0 3 fS fdS ["_law_well_here","_law_words"] spSpW) (kS:keepIn K (.ref fS)=true) (bS:bV K fdS ["_law_well_here","_law_words"] []) (mS:mg "_law_spoilt_words"=some (.ref fS)):aY P w K mg base CX0 4 f fd ["_law_well_here","_law_rows"] spSpR:=by
 refine F.ok oD (fun vs H Q E h=>?_) (fun cdv A outer s H vs Q E hr h=>?_)
 ·obtain⟨w',p,ws,M,rfl,_⟩:=h
  rfl
 ·obtain⟨wl,p,rows,M,rfl,hw,npw,hp,rne,rl0,okr,hM,q⟩:=h
  refine⟨_,aD (aN (i:=2) oD.nd rfl (Or.inl rfl) (aH GD hr rfl mD kD bD .nil aX (aA (pv 0) (aA (aO bJ (by rfl) G.len PySem.boot_len (aA (pv 1) aB)) aB))))
   (aD (aN (i:=3) oD.nd rfl (Or.inl rfl) (aH GD hr rfl mD kD bD .nil aX (aA (pv 0) (aA (aO bJ (by rfl) G.len PySem.boot_len (aA (pv 1) aB)) aB))))
   (aD (aN (i:=4) oD.nd rfl (Or.inl rfl) (aH GD hr rfl mD kD bD .nil aX (aA (pv 0) (aA aC aB))))
   (aD (cB (aS dB (pv 4) aC (bF _)) (aI (aT (aK cE (aQ bQ (pv 1) bI (aU (pv 2))) (aQ bQ (pv 1) (aU (aK cM (pv 2) aC)) bI)))) aW)
   (aD (cB (aS dB (pv 4) aC (bF _)) (aI (aT (aK cE (aQ bQ (pv 1) bI (aU (aK cM (pv 2) aC))) (aQ bQ (pv 1) (aU (pv 2)) bI)))) aW)
   (aD (cB (aS dB (pv 4) aC (bF _)) (aD (aN (i:=5) oD.nd rfl (Or.inl rfl) (aK cE (aQ bQ (pv 1) bI (aU (pv 2))) (aQ bQ (pv 1) (aU (aK cM (pv 2) aC)) bI)))
     (aI (aT (aK cE (aK cE (aQ bQ (pv 5) bI (aU (pv 3))) (bU (aA (aZ aR (pv 1) (pv 2) (fun _ _=>rfl)) aB))) (aQ bQ (pv 5) (aU (pv 3)) bI))))) aW)
   (aD (cB (aS dB (pv 4) aC (bF _)) (aI (aT (aK cE (aK cE (aQ bQ (pv 1) bI (aU (pv 2))) (bU (aA (aZ aR (bU (aA aF (aA aF (aA aF (aA aF (aA aF (aA aF aB))))))) (aH GD hr rfl mD kD bD .nil aX (aA (pv 0) (aA aC aB))) (fun _ _=>rfl)) aB))) (aQ bQ (pv 1) (aU (pv 2)) bI)))) aW)
   (aD (cB (aS dB (pv 4) aC (bF _)) (aI (aT (aK cE (aK cE (aQ bQ (pv 1) bI (aU (pv 2))) (bU (aA (aK dM (aK dM (aZ aR (aK cE (aQ bQ (pv 1) (aU (pv 2)) bI) (bU (aA aF aB))) aC (fun _ _=>rfl)) aF) (aZ aR (aK cE (aQ bQ (pv 1) (aU (aK cM (pv 2) aC)) bI) (bU (aA aF aB))) aC (fun _ _=>rfl))) aB))) (aQ bQ (pv 1) (aU (aK cM (pv 2) aC)) bI)))) aW)
   (aD (cB (aS dB (pv 4) aC (bF _)) (aI (aT (aK cE (aK cE (aQ bQ (pv 1) bI (aU (pv 2))) (bU (aA (aZ aR (bU (aA (aK dM aF (aZ aR (pv 1) (pv 2) (fun _ _=>rfl))) (aA (aK dM (aZ aR (pv 1) (pv 2) (fun _ _=>rfl)) aF) aB))) (aH GD hr rfl mD kD bD .nil aX (aA (pv 0) (aA aC aB))) (fun _ _=>rfl)) aB))) (aQ bQ (pv 1) (aU (aK cM (pv 2) aC)) bI)))) aW)
   (aD (aN (i:=6) oD.nd rfl (Or.inl rfl) (fU PySem.F.plainAttrs_str PySem.F.slot_str_join PySem.F.type_str_join jM aF (aA (aH GS hr rfl mS kS bS .nil aX (aA (pv 0) (aA (fU PySem.F.plainAttrs_str PySem.F.slot_str_split PySem.F.type_str_split gJ (aZ aR (pv 1) (pv 2) (fun _ _=>rfl)) (aA aF aB)) aB))) aB)))
   (aI (aT (aK cE (aK cE (aQ bQ (pv 1) bI (aU (pv 2))) (bU (aA (pv 6) aB))) (aQ bQ (pv 1) (aU (aK cM (pv 2) aC)) bI))))))))))))),?_⟩
  have sl:sizeLine=16777216:=sizeLine_eq
  have n1:1<=rows.length:=by
   cases rows with
   | nil=>exact absurd rfl rne
   | cons a t=>rw [List.length_cons];omega
  have lm:(rows.map V.str).length=rows.length:=List.length_map ..
  refine⟨_,rfl,_,rfl,p,_,rfl,.inl (SqL.of hp),wl,_,rfl,hw,by rw [lm];omega,by rw [lm];omega,fun at_ H1 k1 a0 a1=>?_⟩
  rw [lm] at a1
  obtain⟨k,rfl⟩:∃k:Nat,at_=(k:Int):=⟨at_.toNat,by omega⟩
  have kl:k<rows.length:=by omega
  have hp1:=k1.at_ _ _ npw hp
  refine⟨_,rfl,_,rfl,p,_,rfl,.inl (SqL.of hp1),wl,_,rfl,k1.wl,by rw [lm];omega,by rw [lm];omega,fun ot H2 k2 o0 o1=>?_⟩
  obtain⟨j,rfl⟩:∃j:Nat,ot=(j:Int):=⟨ot.toNat,by omega⟩
  have k02:=k1.trans k2
  refine⟨_,rfl,wl,12,rfl,k02.wl,by decide,by decide,fun way H8 k8 w0 w1=>?_⟩
  have kp8:=k02.trans k8
  have hp8:H8 p=some (.lst (rows.map V.str)):=kp8.at_ _ _ npw hp
  have okM:dP (2 * M+40) rows:=fun r hr=>eQ (okr r hr) (by omega)
  have sub:∀ys:List Str,(∀y ∈ ys,y ∈ rows)->dP (2 * M+40) ys:=fun ys h r hr=>okM r (h r hr)
  have bp:(rows.map V.str)[k]?=some (.str rows[k]):=by rw [List.getElem?_map,List.getElem?_eq_getElem kl];rfl
  have okk:=okr _ (List.getElem_mem kl)
  obtain⟨y1,c1,m1,l1'⟩:=jR rows none (some (k:Int))
  obtain⟨y2,c2,m2,l2'⟩:=jR rows (some ((k:Int)+1)) none
  obtain⟨y3,c3,m3,l3'⟩:=jR rows none (some ((k:Int)+1))
  obtain⟨y4,c4,m4,l4'⟩:=jR rows (some (k:Int)) none
  obtain⟨y5,c5,m5,l5'⟩:=jR rows (some ((k:Int)+2)) none
  have mp:∀ys:List Str,(ys.map V.str).length=ys.length:=fun ys=>List.length_map ..
  refine⟨_,rfl,rfl,_,rfl,cI (fun d0=>?_) fun d0=>?_⟩
  ·refine⟨_,rfl,_,rfl,_,rfl,p,_,rfl,SqL.of hp8,fun l6 h6=>?_⟩
   rw [c1]
   obtain⟨H9,hh9,s9,e9⟩:=Ls.alo h6 (.lst (y1.map V.str))
   rw [hh9]
   refine⟨_,rfl,_,rfl,_,_,rfl,rfl,_,rfl,p,_,rfl,SqL.of (s9 _ _ hp8),fun l7 h7=>?_⟩
   rw [c2]
   obtain⟨H10,hh10,s10,e10⟩:=Ls.alo h7 (.lst (y2.map V.str))
   rw [hh10]
   refine⟨l6,l7,_,_,rfl,rfl,s10 _ _ e9,e10,by rw [mp,mp];omega,fun l8 h8=>?_⟩
   rw [<- List.map_append]
   exact q l8 _ _ (kp8.same (s9.trans (s10.trans (aG h8)))) aE ((sub _ m1).app (sub _ m2)) (by rw [List.length_append];omega)
  refine⟨_,rfl,rfl,_,rfl,cI (fun d1=>?_) fun d1=>?_⟩
  ·refine⟨_,rfl,_,rfl,_,_,rfl,rfl,_,rfl,p,_,rfl,SqL.of hp8,fun l6 h6=>?_⟩
   rw [c3]
   obtain⟨H9,hh9,s9,e9⟩:=Ls.alo h6 (.lst (y3.map V.str))
   rw [hh9]
   refine⟨_,rfl,_,rfl,_,rfl,p,_,rfl,SqL.of (s9 _ _ hp8),fun l7 h7=>?_⟩
   rw [c4]
   obtain⟨H10,hh10,s10,e10⟩:=Ls.alo h7 (.lst (y4.map V.str))
   rw [hh10]
   refine⟨l6,l7,_,_,rfl,rfl,s10 _ _ e9,e10,by rw [mp,mp];omega,fun l8 h8=>?_⟩
   rw [<- List.map_append]
   exact q l8 _ _ (kp8.same (s9.trans (s10.trans (aG h8)))) aE ((sub _ m3).app (sub _ m4)) (by rw [List.length_append];omega)
  refine⟨_,rfl,rfl,_,rfl,cI (fun d2=>?_) fun d2=>?_⟩
  ·refine⟨_,rfl,_,rfl,_,rfl,p,_,rfl,SqL.of hp8,fun l6 h6=>?_⟩
   rw [c1]
   obtain⟨H10,hh10,s10,e10⟩:=Ls.alo h6 (.lst (y1.map V.str))
   rw [hh10]
   refine⟨_,rfl,_,rfl,_,_,rfl,rfl,_,rfl,p,_,rfl,SqL.of (s10 _ _ hp8),fun l7 h7=>?_⟩
   rw [c2]
   obtain⟨H11,hh11,s11,e11⟩:=Ls.alo h7 (.lst (y2.map V.str))
   rw [hh11]
   refine⟨l6,l7,_,_,rfl,rfl,s11 _ _ e10,e11,by rw [mp,mp];omega,fun l8 h8=>?_⟩
   rw [<- List.map_append]
   obtain⟨H12,hh12,s12,e12⟩:=Ls.alo h8 (.lst ((y1++y2).map V.str))
   rw [hh12]
   have lr:(y1++y2).length<=2 * rows.length:=by rw [List.length_append];omega
   have okrest:dP (2 * M+40) (y1++y2):=(sub _ m1).app (sub _ m2)
   generalize y1++y2=rest at *
   have rT:cY (rest.map V.str) none (some (j:Int))=(rest.take j).map V.str:=by rw [gM,List.map_take]
   have rD:cY (rest.map V.str) (some (j:Int)) none=(rest.drop j).map V.str:=by rw [gN,List.map_drop]
   refine⟨_,rfl,_,rfl,_,rfl,l8,_,rfl,SqL.of e12,fun l9 h9=>?_⟩
   rw [rT]
   obtain⟨H13,hh13,s13,e13⟩:=Ls.alo h9 (.lst ((rest.take j).map V.str))
   rw [hh13]
   have hp13:=s13 _ _ (s12 _ _ (s11 _ _ (s10 _ _ hp8)))
   refine⟨_,rfl,_,rfl,p,_,_,_,rfl,rfl,SqL.of hp13,aJ (j:=k) bp,by show 1<=sizeLine;decide,fun l10 h10=>?_⟩
   obtain⟨H14,hh14,s14,e14⟩:=Ls.alo h10 (.lst ([rows[k]].map V.str))
   have hh14:upd H13 l10 (.lst [.str rows[k]])=H14:=hh14
   rw [hh14]
   refine⟨l9,l10,_,_,rfl,rfl,s14 _ _ e13,e14,by rw [mp,List.length_take];show _+1<=sizeLine;omega,fun l11 h11=>?_⟩
   rw [<- List.map_append]
   obtain⟨H15,hh15,s15,e15⟩:=Ls.alo h11 (.lst ((rest.take j++[rows[k]]).map V.str))
   rw [hh15]
   refine⟨_,rfl,_,rfl,_,rfl,l8,_,rfl,SqL.of (s15 _ _ (s14 _ _ (s13 _ _ e12))),fun l12 h12=>?_⟩
   rw [rD]
   obtain⟨H16,hh16,s16,e16⟩:=Ls.alo h12 (.lst ((rest.drop j).map V.str))
   rw [hh16]
   refine⟨l11,l12,_,_,rfl,rfl,s16 _ _ e15,e16,by rw [mp,mp,List.length_append,List.length_take,List.length_drop];show _+1+_<=sizeLine;omega,fun l13 h13=>?_⟩
   rw [<- List.map_append]
   refine q l13 _ _ (kp8.same (s10.trans (s11.trans (s12.trans (s13.trans (s14.trans (s15.trans (s16.trans (aG h13))))))))) aE (dP.app (dP.app (a:=rest.take j) (fun r hr=>okrest r (List.mem_of_mem_take hr)) (dP.one (eQ okk (by omega)))) (fun r hr=>okrest r (List.mem_of_mem_drop hr))) ?_
   rw [List.length_append,List.length_append,List.length_take,List.length_drop]
   show _+1+_<=_
   omega
  refine⟨_,rfl,rfl,_,rfl,cI (fun d3=>?_) fun d3=>?_⟩
  ·refine⟨_,rfl,_,rfl,_,rfl,p,_,rfl,SqL.of hp8,fun l6 h6=>?_⟩
   rw [c1]
   obtain⟨H10,hh10,s10,e10⟩:=Ls.alo h6 (.lst (y1.map V.str))
   rw [hh10]
   refine⟨by show 6<=sizeLine;decide,fun l7 h7=>?_⟩
   obtain⟨H11,hh11,s11,e11⟩:=Ls.alo h7 (.lst (s3.map V.str))
   have hh11:upd H10 l7 (.lst [.str "",.str " ",.str "  ",.str "join",.str "work",.str "join 0 "])=H11:=hh11
   rw [hh11]
   have kp11:Kp wl H H11:=kp8.same (s10.trans s11)
   refine⟨_,rfl,wl,6,rfl,kp11.wl,by decide,by decide,fun o H12 k12 u0 u1=>?_⟩
   have n7:l7≠wl:=(((kp8.same s10).wl).ne h7).symm
   have n6:l6≠wl:=((kp8.wl).ne h6).symm
   obtain⟨z,hz,ez⟩:=oG (ns:=s3) u0 (by show o<6;exact u1)
   have okz:Tm.okR (2 * M+40) z:=eQ (okRB_t (List.all_eq_true.mp s3_ok z hz)) (by omega)
   refine⟨l7,_,_,_,rfl,rfl,SqL.of (k12.at_ _ _ n7 e11),ez,by show 1<=sizeLine;decide,fun l8 h8=>?_⟩
   have e12:=k12.at_ _ _ n6 (s11 _ _ e10)
   have hp12:=k12.at_ _ _ npw (s11 _ _ (s10 _ _ hp8))
   have kp12:=kp11.trans k12
   obtain⟨Ha,hha,sa,ea'⟩:=Ls.alo h8 (.lst ([z].map V.str))
   have hha:upd H12 l8 (.lst [.str z])=Ha:=hha
   rw [hha]
   refine⟨l6,l8,_,_,rfl,rfl,sa _ _ e12,ea',by rw [mp];show _+1<=sizeLine;omega,fun lb hb=>?_⟩
   rw [<- List.map_append]
   obtain⟨Hb,hhb,sb,eb'⟩:=Ls.alo hb (.lst ((y1++[z]).map V.str))
   rw [hhb]
   refine⟨_,rfl,_,rfl,_,rfl,p,_,rfl,SqL.of (sb _ _ (sa _ _ hp12)),fun lc hc=>?_⟩
   rw [c4]
   obtain⟨Hc,hhc,sc,ec'⟩:=Ls.alo hc (.lst (y4.map V.str))
   rw [hhc]
   refine⟨lb,lc,_,_,rfl,rfl,sc _ _ eb',ec',by rw [mp,mp,List.length_append];show _+1+_<=sizeLine;omega,fun ld hd=>?_⟩
   rw [<- List.map_append]
   refine q ld _ _ (kp12.same (sa.trans (sb.trans (sc.trans (aG hd))))) aE (((sub _ m1).app (dP.one okz)).app (sub _ m4)) ?_
   rw [List.length_append,List.length_append]
   show _+1+_<=_
   omega
  refine⟨_,rfl,rfl,_,rfl,cI (fun d4=>?_) fun d4=>?_⟩
  ·refine⟨_,rfl,_,rfl,_,rfl,p,_,rfl,SqL.of hp8,fun l6 h6=>?_⟩
   rw [c1]
   obtain⟨H10,hh10,s10,e10⟩:=Ls.alo h6 (.lst (y1.map V.str))
   rw [hh10]
   refine⟨_,rfl,_,rfl,_,rfl,p,_,rfl,SqL.of (s10 _ _ hp8),fun l7 h7=>?_⟩
   rw [c4]
   obtain⟨H11,hh11,s11,e11⟩:=Ls.alo h7 (.lst (y4.map V.str))
   rw [hh11]
   refine⟨by show 1<=sizeLine;decide,fun l8 h8=>?_⟩
   obtain⟨H12,hh12,s12,e12⟩:=Ls.alo h8 (.lst ([Str.ofString ""].map V.str))
   have hh12:upd H11 l8 (.lst [.str ""])=H12:=hh12
   rw [hh12]
   refine⟨l7,l8,_,_,rfl,rfl,s12 _ _ e11,e12,by rw [mp];show _+1<=sizeLine;omega,fun l9 h9=>?_⟩
   rw [<- List.map_append]
   obtain⟨H13,hh13,s13,e13⟩:=Ls.alo h9 (.lst ((y4++[Str.ofString ""]).map V.str))
   rw [hh13]
   obtain⟨za,ea,ma⟩:=pick0 (ys:=y4)
   have oka:Tm.okR M za:=ma.elim (fun z=>okr _ (m4 _ z)) (fun z=>by rw [z];exact fI)
   refine⟨l9,_,_,_,rfl,rfl,SqL.of e13,ea,_,_,rfl,rfl,by rw [c32];have:=oka.1;show _+1<=sizeLine;omega,?_⟩
   have s9:aV H8 H13:=s10.trans (s11.trans (s12.trans s13))
   refine⟨_,rfl,_,rfl,_,_,rfl,rfl,_,rfl,p,_,rfl,SqL.of (s9 _ _ hp8),fun l10 h10=>?_⟩
   rw [c2]
   obtain⟨H14,hh14,s14,e14⟩:=Ls.alo h10 (.lst (y2.map V.str))
   rw [hh14]
   refine⟨by show 1<=sizeLine;decide,fun l11 h11=>?_⟩
   obtain⟨H15,hh15,s15,e15⟩:=Ls.alo h11 (.lst ([Str.ofString ""].map V.str))
   have hh15:upd H14 l11 (.lst [.str ""])=H15:=hh15
   rw [hh15]
   refine⟨l10,l11,_,_,rfl,rfl,s15 _ _ e14,e15,by rw [mp];show _+1<=sizeLine;omega,fun l12 h12=>?_⟩
   rw [<- List.map_append]
   obtain⟨H16,hh16,s16,e16⟩:=Ls.alo h12 (.lst ((y2++[Str.ofString ""]).map V.str))
   rw [hh16]
   obtain⟨zb,eb,mb⟩:=pick0 (ys:=y2)
   have okb:Tm.okR M zb:=mb.elim (fun z=>okr _ (m2 _ z)) (fun z=>by rw [z];exact fI)
   have okab:Tm.okR (M+1) (za++⟨#[32]⟩):=lH oka kF (Nat.le_refl _)
   refine⟨l12,_,_,_,rfl,rfl,SqL.of e16,eb,_,_,rfl,rfl,by rw [c32];have:=okab.1;have:=okb.1;omega,?_⟩
   rw [c32]
   have okz:Tm.okR (2 * M+40) (za++⟨#[32]⟩++zb):=lH okab okb (by omega)
   generalize za++⟨#[32]⟩++zb=z at okz ⊢
   have s816:aV H8 H16:=s9.trans (s14.trans (s15.trans s16))
   have kp12:Kp wl H H16:=kp8.same s816
   have e12:=s16 _ _ (s15 _ _ (s14 _ _ (s13 _ _ (s12 _ _ (s11 _ _ e10)))))
   have hp12:=s816 _ _ hp8
   refine⟨by show 1<=sizeLine;decide,fun l8 h8=>?_⟩
   obtain⟨Ha,hha,sa,ea'⟩:=Ls.alo h8 (.lst ([z].map V.str))
   have hha:upd H16 l8 (.lst [.str z])=Ha:=hha
   rw [hha]
   refine⟨l6,l8,_,_,rfl,rfl,sa _ _ e12,ea',by rw [mp];show _+1<=sizeLine;omega,fun lb hb=>?_⟩
   rw [<- List.map_append]
   obtain⟨Hb,hhb,sb,eb'⟩:=Ls.alo hb (.lst ((y1++[z]).map V.str))
   rw [hhb]
   refine⟨_,rfl,_,rfl,_,_,rfl,rfl,_,rfl,p,_,rfl,SqL.of (sb _ _ (sa _ _ hp12)),fun lc hc=>?_⟩
   rw [c5]
   obtain⟨Hc,hhc,sc,ec'⟩:=Ls.alo hc (.lst (y5.map V.str))
   rw [hhc]
   refine⟨lb,lc,_,_,rfl,rfl,sc _ _ eb',ec',by rw [mp,mp,List.length_append];show _+1+_<=sizeLine;omega,fun ld hd=>?_⟩
   rw [<- List.map_append]
   refine q ld _ _ (kp12.same (sa.trans (sb.trans (sc.trans (aG hd))))) aE (((sub _ m1).app (dP.one okz)).app (sub _ m5)) ?_
   rw [List.length_append,List.length_append]
   show _+1+_<=_
   omega
  refine⟨_,rfl,rfl,_,rfl,cI (fun d5=>?_) fun d5=>?_⟩
  ·refine⟨_,rfl,_,rfl,_,rfl,p,_,rfl,SqL.of hp8,fun l6 h6=>?_⟩
   rw [c1]
   obtain⟨H10,hh10,s10,e10⟩:=Ls.alo h6 (.lst (y1.map V.str))
   rw [hh10]
   have hp10:=s10 _ _ hp8
   have ok1:Tm.okR (M+1) (⟨#[32]⟩++rows[k]):=lH kF okk (by omega)
   have ok2:Tm.okR (M+1) (rows[k]++⟨#[32]⟩):=lH okk kF (Nat.le_refl _)
   refine⟨_,rfl,_,rfl,p,_,_,_,rfl,rfl,SqL.of hp10,aJ (j:=k) bp,_,_,rfl,rfl,by rw [c32];have:=okk.1;show 1+_<=sizeLine;omega,_,rfl,_,rfl,p,_,_,_,rfl,rfl,SqL.of hp10,aJ (j:=k) bp,_,_,rfl,rfl,by rw [c32];have:=okk.1;show _+1<=sizeLine;omega,by show 2<=sizeLine;decide,fun l7 h7=>?_⟩
   rw [c32]
   obtain⟨H11,hh11,s11,e11⟩:=Ls.alo h7 (.lst ([⟨#[32]⟩++rows[k],rows[k]++⟨#[32]⟩].map V.str))
   have hh11:upd H10 l7 (.lst [.str (⟨#[32]⟩++rows[k]),.str (rows[k]++⟨#[32]⟩)])=H11:=hh11
   rw [hh11]
   have kp11:Kp wl H H11:=kp8.same (s10.trans s11)
   refine⟨_,rfl,wl,2,rfl,kp11.wl,by decide,by decide,fun o H12 k12 u0 u1=>?_⟩
   have n7:l7≠wl:=(((kp8.same s10).wl).ne h7).symm
   have n6:l6≠wl:=((kp8.wl).ne h6).symm
   obtain⟨z,hz,ez⟩:=oG (ns:=[⟨#[32]⟩++rows[k],rows[k]++⟨#[32]⟩]) u0 (by show o<2;exact u1)
   have okz:Tm.okR (2 * M+40) z:=by
    simp only [List.mem_cons,List.not_mem_nil,or_false] at hz
    rcases hz with rfl|rfl
    ·exact eQ ok1 (by omega)
    ·exact eQ ok2 (by omega)
   refine⟨l7,_,_,_,rfl,rfl,SqL.of (k12.at_ _ _ n7 e11),ez,by show 1<=sizeLine;decide,fun l8 h8=>?_⟩
   have e12:=k12.at_ _ _ n6 (s11 _ _ e10)
   have hp12:=k12.at_ _ _ npw (s11 _ _ hp10)
   have kp12:=kp11.trans k12
   obtain⟨Ha,hha,sa,ea'⟩:=Ls.alo h8 (.lst ([z].map V.str))
   have hha:upd H12 l8 (.lst [.str z])=Ha:=hha
   rw [hha]
   refine⟨l6,l8,_,_,rfl,rfl,sa _ _ e12,ea',by rw [mp];show _+1<=sizeLine;omega,fun lb hb=>?_⟩
   rw [<- List.map_append]
   obtain⟨Hb,hhb,sb,eb'⟩:=Ls.alo hb (.lst ((y1++[z]).map V.str))
   rw [hhb]
   refine⟨_,rfl,_,rfl,_,_,rfl,rfl,_,rfl,p,_,rfl,SqL.of (sb _ _ (sa _ _ hp12)),fun lc hc=>?_⟩
   rw [c2]
   obtain⟨Hc,hhc,sc,ec'⟩:=Ls.alo hc (.lst (y2.map V.str))
   rw [hhc]
   refine⟨lb,lc,_,_,rfl,rfl,sc _ _ eb',ec',by rw [mp,mp,List.length_append];show _+1+_<=sizeLine;omega,fun ld hd=>?_⟩
   rw [<- List.map_append]
   refine q ld _ _ (kp12.same (sa.trans (sb.trans (sc.trans (aG hd))))) aE (((sub _ m1).app (dP.one okz)).app (sub _ m2)) ?_
   rw [List.length_append,List.length_append]
   show _+1+_<=_
   omega
  ·refine⟨rfl,_,rfl,_,rfl,_,rfl,p,_,_,_,rfl,rfl,SqL.of hp8,aJ (j:=k) bp,rfl,_,_,rfl,rfl,by decide +kernel,by have:=okk.1;omega,fun l6 h6=>?_⟩
   rw [c32]
   obtain⟨H10,hh10,s10,e10⟩:=Ls.alo h6 (.lst ((Tm.wds rows[k]).map V.str))
   have hh10:upd H8 l6 (.lst ((Txt.split rows[k] ⟨#[32]⟩).map V.str))=H10:=hh10
   rw [hh10]
   have kp10:Kp wl H H10:=kp8.same s10
   have n6:l6≠wl:=((kp8.wl).ne h6).symm
   have cnt:=Tm.wds_cnt rows[k]
   have wok:=Tm.wds_ok okk
   have okkl:=okk.1
   refine⟨wl,l6,Tm.wds rows[k],rfl,kp10.wl,n6,e10,Tm.wds_ne _,by omega,fun u hu=>(wok u hu).2,fun r ws' H11 k11 e11 okw tl=>?_⟩
   have tw:tlS (Tm.wds rows[k])=rows[k].length+1:=by
    rw [rH (Tm.wds_ne _),Tm.wds_join]
   have jl:=vI ws'
   have jn:=mY ⟨#[32]⟩ ws'
   refine⟨_,r,ws',rfl,rfl,SqL.of e11,?_,?_⟩
   ·have:tlS ws'=(ws'.map fun y=>y.length).sum+ws'.length:=rfl
    rw [show (⟨#[32]⟩:Str).length=1 from rfl]
    omega
   rw [show Txt.join ⟨#[32]⟩ ws'=Str.join ⟨#[32]⟩ ws' from StrLaws.glued_eq_join _ _]
   have okz:Tm.okR (2 * M+40) (Str.join ⟨#[32]⟩ ws'):=by
    refine⟨by omega,fun c hc=>?_⟩
    rcases Tm.join_sg hc with z|⟨u,h1,h2⟩
    ·omega
    ·have:=okw u h1 c h2
     omega
   generalize Str.join ⟨#[32]⟩ ws'=z at okz ⊢
   have kp11:=kp10.trans k11
   have hp11:=kp11.at_ _ _ npw hp
   refine⟨_,rfl,_,rfl,_,rfl,p,_,rfl,SqL.of hp11,fun l7 h7=>?_⟩
   rw [c1]
   obtain⟨H12,hh12,s12,e12⟩:=Ls.alo h7 (.lst (y1.map V.str))
   rw [hh12]
   refine⟨_,rfl,by show 1<=sizeLine;decide,fun l8 h8=>?_⟩
   have kp12:=kp11.same s12
   have hp12:=s12 _ _ hp11
   obtain⟨Ha,hha,sa,ea'⟩:=Ls.alo h8 (.lst ([z].map V.str))
   have hha:upd H12 l8 (.lst [.str z])=Ha:=hha
   rw [hha]
   refine⟨l7,l8,_,_,rfl,rfl,sa _ _ e12,ea',by rw [mp];show _+1<=sizeLine;omega,fun lb hb=>?_⟩
   rw [<- List.map_append]
   obtain⟨Hb,hhb,sb,eb'⟩:=Ls.alo hb (.lst ((y1++[z]).map V.str))
   rw [hhb]
   refine⟨_,rfl,_,rfl,_,_,rfl,rfl,_,rfl,p,_,rfl,SqL.of (sb _ _ (sa _ _ hp12)),fun lc hc=>?_⟩
   rw [c2]
   obtain⟨Hc,hhc,sc,ec'⟩:=Ls.alo hc (.lst (y2.map V.str))
   rw [hhc]
   refine⟨lb,lc,_,_,rfl,rfl,sc _ _ eb',ec',by rw [mp,mp,List.length_append];show _+1+_<=sizeLine;omega,fun ld hd=>?_⟩
   rw [<- List.map_append]
   refine q ld _ _ (kp12.same (sa.trans (sb.trans (sc.trans (aG hd))))) aE (((sub _ m1).app (dP.one okz)).app (sub _ m2)) ?_
   rw [List.length_append,List.length_append]
   show _+1+_<=_
   omega
def mF (xs:List V):Str:=Str.join ⟨#[32]⟩ (xs.map dY)
theorem lF (xs:List V):rowT xs=mF xs++⟨#[10]⟩:=by
 unfold rowT mF
 rw [c32,c10]
 congr 1
 exact StrLaws.glued_eq_join _ _
theorem part_wd {v:V} (h:dG v):Tm.Wd (dY v):=by
 cases h with
 | int h=>exact Tm.num_wd h
 | str h=>exact Tm.wd_iff.mp h
theorem yL {xs:List V} (h:∀v ∈ xs,dG v):(mF xs).length<=xs.length * 31:=by
 have e:=StrLaws.join_length_le ⟨#[32]⟩ (xs.map dY)
 have s:=oK h
 have e1:(⟨#[32]⟩:Str).length=1:=rfl
 rw [List.length_map,e1] at e
 unfold mF
 have:((xs.map dY).map (·.length)).sum<=xs.length * 30:=s
 omega
theorem lW {y:Str}:Txt.slice (y++⟨#[10]⟩) none (some (-1))=y:=by
 have hl:(y++⟨#[10]⟩:Str).length=y.length+1:=by rw [Str.length_append];rfl
 have s:=StrLaws.sliceText_to_neg (x:=y++⟨#[10]⟩) (j:=-1) (by decide) (by rw [hl];omega)
 refine(show Txt.slice (y++⟨#[10]⟩) none (some (-1))=_ from s).trans (Tm.sg_ext ?_)
 show ((y++⟨#[10]⟩:Str).cps.toList.drop 0).take (-1+((y++⟨#[10]⟩:Str).length:Int)-0).toNat=Tm.sg y
 rw [hl,List.drop_zero]
 have e:(y++⟨#[10]⟩:Str).cps.toList=Tm.sg y++[10]:=Tm.sg_app y ⟨#[10]⟩
 have l:=Tm.sg_len y
 rw [e,show (-1+((y.length+1:Nat):Int)-0).toNat=(Tm.sg y).length by omega]
 exact List.take_left ..
theorem vT {xs:List V} (h:∀v ∈ xs,dG v) (l:xs.length<=45):Tm.okR 1400 (mF xs):=by
 refine⟨by have:=yL h;omega,fun c hc=>?_⟩
 unfold mF at hc
 rcases Tm.join_sg hc with z|⟨u,h1,h2⟩
 ·omega
 ·obtain⟨v,hv,rfl⟩:=List.mem_map.mp h1
  have:=(part_wd (h v hv)).all c h2
  omega
def pL:Sp:=fun vs H Q _=>∃(w:Addr),vs=[.ref w]/\Wl H w/\∀x H',Kp w H H'->Tm.okR 1400 x->Q (.str x) H'
theorem gB.kp' {w p:Addr} {H H':Hp} {ps:List (Int × Int)} (k:Kp w H H') (hw:Wl H w) (h:gB H p ps):gB H' p ps:=by
 obtain⟨xs,h1,h2,h3⟩:=h
 exact⟨xs,k.tup hw h1,cA (fun v q ⟨b,z1,z2⟩=>⟨b,z1,k.tup hw z2⟩) h2,h3⟩
theorem gD:bO ["_law_well_here","_law_work","_law_limits","_law_way"] ["_law_well_here"] (aM jW):=⟨rfl,rfl,rfl,by decide +kernel,rfl,by decide +kernel,by decide +kernel⟩
theorem sh_rest {f fD fH:Addr} {fdD fdH:FuncData} {cdv:Value} {A:Around} {outer:List Env} {s:Shared} {H:Hp} {E:XK}
  (GD:aY P w K mg base CX0 2 fD fdD ["_law_well_here","_law_most"] eD) (kD:keepIn K (.ref fD)=true) (bD:bV K fdD ["_law_well_here","_law_most"] []) (mD:mg "_law_draw"=some (.ref fD))
  (GH:aY P w K mg base CX0 2 fH fdH ["_law_work","_law_limits"] jG) (kH:keepIn K (.ref fH)=true) (bH:bV K fdH ["_law_work","_law_limits"] []) (mH:mg "_law_head"=some (.ref fH))
  (hr:eS 2 (A.deeper (PyProof.Rows.envOfC "_law_some_head" (aM jW) s.heap.objs.size f cdv))):
  ∃t,PSs (iS CX0 P w K mg base ["_law_well_here","_law_work","_law_limits","_law_way"] "_law_some_head" (aM jW) f cdv A outer s H E).nox ((dA jW).drop 6) t /\
   ∀(D:jV) (wl p l:Addr) (way:Int) (ps:List (Int × Int)) (a b c:Int) (H2:Hp),Wl H2 wl->gB H2 p ps->H2 l=some (.tup [.int a,.int b,.int c])->Bd a->Bd b->Bd c ->
    (∀x H',Kp wl H2 H'->Tm.okR 1400 x->D.rt (.str x) H')->t D [some (.ref wl),some (.ref p),some (.ref l),some (.int way)] H2:=by
 refine⟨_,(aD (cB (PW.pt (jY (aS sJ (pv 3) aC (bF _)) (iH (aS iT (pv 3) aC (bF _))))) (aI (aN (i:=2) gD.nd rfl (Or.inl rfl) (aZ aR (bU (aA (bZ (aA aC (aA aC (aA aC aB)))) (aA (bZ (aA aC (aA aC (aA aC aB)))) (aA (bZ (aA aC (aA aC (aA aC aB)))) (aA (bZ (aA aC (aA aC (aA aC aB)))) (aA (bZ (aA (aK eV aC aC) (aA aC (aA aC aB)))) (aA (bZ (aA aC (aA aC (aA aC aB)))) aB))))))) (aH GD hr rfl mD kD bD .nil aX (aA (pv 0) (aA aC aB))) (fun _ _=>rfl)))) aW)
   (aI (aT (aQ lY (aH GH hr rfl mH kH bH .nil aX (aA (pv 1) (aA (pv 2) aB))) bI (aU (fT dW aC)))))),?_⟩
 intro D wl p l way ps a b c H2 hw hwk hl ba bb bc q
 have sl:sizeLine=16777216:=sizeLine_eq
 have fin:∀(l':Addr) (a' b' c':Int) (H3:Hp),Kp wl H2 H3->H3 l'=some (.tup [.int a',.int b',.int c'])->Bd a'->Bd b'->Bd c'->tRet (tSl rSlS (nY jG [] E0 (gG (hJ 1) (gG (hJ 2) kT))) vL (vK (tUn (fun x H Q=>∃i,x=.int i/\Q (.int (-i)) H) (tC (.int 1))))) D [some (.ref wl),some (.ref p),some (.ref l'),some (.int way)] H3:=fun l' a' b' c' H3 k3 e3 b1 b2 b3=>by
  have hwk3:=hwk.kp' k3 hw
  obtain⟨xs,hx,pr,len,bd⟩:=id hwk3
  refine⟨_,rfl,_,rfl,p,l',ps,a',b',c',rfl,hwk3,e3,b1,b2,b3,fun H4 s4=>⟨1,rfl,_,rfl,?_⟩⟩
  have ok:=wL bd b1 b2 b3
  have hl:(oX ps a' b' c').length<=45:=by
   unfold oX
   rw [List.length_append,List.length_cons,jO]
   show 2 * ps.length+1+6<=45
   omega
  have okr:=vT ok hl
  refine⟨_,rfl,?_,?_⟩
  ·rw [lF,Tm.len_app]
   have:=okr.1
   show _+1<=sizeLine
   omega
  ·rw [lF]
   show D.rt (.str (Txt.slice (mF (oX ps a' b' c')++⟨#[10]⟩) none (some (-1)))) H4
   rw [lW]
   exact q _ _ (k3.same s4) okr
 refine⟨_,rfl,_,_,rfl,rfl,_,rfl,cI (fun c1=>?_) fun c1=>?_⟩
 ·refine⟨_,rfl,_,_,rfl,rfl,_,rfl,cI (fun c2=>?_) fun c2=>?_⟩
  ·
   refine⟨by show 3<=sizeLine;decide,fun t0 h0=>?_⟩
   obtain⟨G0,hh0,s0,e0⟩:=Ls.alo h0 (.tup [.int 0,.int 1,.int 1])
   rw [hh0]
   refine⟨by show 3<=sizeLine;decide,fun t1 h1=>?_⟩
   obtain⟨G1,hh1,s1,e1⟩:=Ls.alo h1 (.tup [.int 1,.int 0,.int 1])
   rw [hh1]
   refine⟨by show 3<=sizeLine;decide,fun t2 h2=>?_⟩
   obtain⟨G2,hh2,s2,e2⟩:=Ls.alo h2 (.tup [.int 1,.int 1,.int 0])
   rw [hh2]
   refine⟨by show 3<=sizeLine;decide,fun t3 h3=>?_⟩
   obtain⟨G3,hh3,s3',e3⟩:=Ls.alo h3 (.tup [.int 5,.int 3,.int 2])
   rw [hh3]
   refine⟨_,_,rfl,rfl,by show 3<=sizeLine;decide,fun t4 h4=>?_⟩
   obtain⟨G4,hh4,s4,e4⟩:=Ls.alo h4 (.tup [.int (0-1),.int 1,.int 1])
   rw [hh4]
   refine⟨by show 3<=sizeLine;decide,fun t5 h5=>?_⟩
   obtain⟨G5,hh5,s5,e5⟩:=Ls.alo h5 (.tup [.int 2,.int 9,.int 8])
   rw [hh5]
   refine⟨by show 6<=sizeLine;decide,fun l7 h7=>?_⟩
   obtain⟨G6,hh6,s6,e6⟩:=Ls.alo h7 (.lst [.ref t0,.ref t1,.ref t2,.ref t3,.ref t4,.ref t5])
   rw [hh6]
   have sG:aV H2 G6:=s0.trans (s1.trans (s2.trans (s3'.trans (s4.trans (s5.trans s6)))))
   have kG:Kp wl H2 G6:=(Kp.refl hw).same sG
   have n7:l7≠wl:=((Kp.refl hw).same (s0.trans (s1.trans (s2.trans (s3'.trans (s4.trans s5)))))).wl.ne h7 |>.symm
   refine⟨_,rfl,wl,6,rfl,kG.wl,by decide,by decide,fun o H3 k3 o0 o1=>?_⟩
   obtain⟨ti,a',b',c',ei,et,b1,b2,b3⟩:∃(ti:Addr) (a' b' c':Int),atI [V.ref t0,.ref t1,.ref t2,.ref t3,.ref t4,.ref t5] o=some (.ref ti)/\G6 ti=some (.tup [.int a',.int b',.int c'])/\Bd a'/\Bd b'/\Bd c':=by
    obtain⟨n,rfl⟩:∃n:Nat,o=(n:Int):=⟨o.toNat,by omega⟩
    have bd:∀i:Int,-10<=i->i<=10->Bd i:=fun i h1 h2=>⟨by omega,by omega⟩
    obtain rfl|rfl|rfl|rfl|rfl|rfl:n=0\/n=1\/n=2\/n=3\/n=4\/n=5:=by omega
    ·exact⟨t0,0,1,1,aJ (j:=0) rfl,s6 _ _ (s5 _ _ (s4 _ _ (s3' _ _ (s2 _ _ (s1 _ _ e0))))),bd _ (by decide) (by decide),bd _ (by decide) (by decide),bd _ (by decide) (by decide)⟩
    ·exact⟨t1,1,0,1,aJ (j:=1) rfl,s6 _ _ (s5 _ _ (s4 _ _ (s3' _ _ (s2 _ _ e1)))),bd _ (by decide) (by decide),bd _ (by decide) (by decide),bd _ (by decide) (by decide)⟩
    ·exact⟨t2,1,1,0,aJ (j:=2) rfl,s6 _ _ (s5 _ _ (s4 _ _ (s3' _ _ e2))),bd _ (by decide) (by decide),bd _ (by decide) (by decide),bd _ (by decide) (by decide)⟩
    ·exact⟨t3,5,3,2,aJ (j:=3) rfl,s6 _ _ (s5 _ _ (s4 _ _ e3)),bd _ (by decide) (by decide),bd _ (by decide) (by decide),bd _ (by decide) (by decide)⟩
    ·exact⟨t4,0-1,1,1,aJ (j:=4) rfl,s6 _ _ (s5 _ _ e4),bd _ (by decide) (by decide),bd _ (by decide) (by decide),bd _ (by decide) (by decide)⟩
    ·exact⟨t5,2,9,8,aJ (j:=5) rfl,s6 _ _ e5,bd _ (by decide) (by decide),bd _ (by decide) (by decide),bd _ (by decide) (by decide)⟩
   refine⟨l7,_,_,_,rfl,rfl,SqL.of (k3.at_ _ _ n7 e6),ei,?_⟩
   exact fin ti a' b' c' H3 (kG.trans k3) (k3.tup kG.wl et) b1 b2 b3
  ·exact fin l a b c H2 (Kp.refl hw) hl ba bb bc
 ·exact eM (fin l a b c H2 (Kp.refl hw) hl ba bb bc)
theorem gB.snoc {H:Hp} {p:Addr} {ps ps':List (Int × Int)} {xs ys:List V} (h1:H p=some (.tup (xs++ys))) (h2:Paired (PairAt H) xs ps) (h3:Paired (PairAt H) ys ps') (l:(ps++ps').length<=10) (b:∀q ∈ ps,Bd q.1/\Bd q.2) (b':∀q ∈ ps',Bd q.1/\Bd q.2):gB H p (ps++ps'):=
 ⟨xs++ys,h1,Ls.paired_app h2 h3,l,fun q hq=>(List.mem_append.mp hq).elim (b q) (b' q)⟩
theorem zG {f fD fH fM fL:Addr} {fd fdD fdH fdM fdL:FuncData} (F:Fun K "_law_some_head" "_law_some_head" jW f fd)
  (GM:aY P w K mg base CX0 2 fM fdM ["_law_well_here"] uA) (kM:keepIn K (.ref fM)=true) (bM:bV K fdM ["_law_well_here"] []) (mM:mg "_law_free_work"=some (.ref fM))
  (GL:aY P w K mg base CX0 2 fL fdL ["_law_well_here"] uC) (kL:keepIn K (.ref fL)=true) (bL:bV K fdL ["_law_well_here"] []) (mL:mg "_law_free_limits"=some (.ref fL))
  (GD:aY P w K mg base CX0 2 fD fdD ["_law_well_here","_law_most"] eD) (kD:keepIn K (.ref fD)=true) (bD:bV K fdD ["_law_well_here","_law_most"] []) (mD:mg "_law_draw"=some (.ref fD))
  (GH:aY P w K mg base CX0 2 fH fdH ["_law_work","_law_limits"] jG) (kH:keepIn K (.ref fH)=true) (bH:bV K fdH ["_law_work","_law_limits"] []) (mH:mg "_law_head"=some (.ref fH)):aY P w K mg base CX0 3 f fd ["_law_well_here"] pL:=by
 refine F.ok gD (fun vs H Q E h=>?_) (fun cdv A outer s H vs Q E hr h=>?_)
 ·obtain⟨w',rfl,_⟩:=h
  rfl
 ·obtain⟨wl,rfl,hw,q⟩:=h
  obtain⟨tR,hR,rest⟩:=sh_rest (f:=f) (cdv:=cdv) (A:=A) (outer:=outer) (s:=s) (H:=H) (E:=E) GD kD bD mD GH kH bH mH hr
  refine⟨_,aD (aN (i:=1) gD.nd rfl (Or.inl rfl) (aH GM hr rfl mM kM bM .nil aX (aA (pv 0) aB)))
   (aD (aN (i:=2) gD.nd rfl (Or.inl rfl) (aH GL hr rfl mL kL bL .nil aX (aA (pv 0) aB)))
   (aD (aN (i:=3) gD.nd rfl (Or.inl rfl) (aH GD hr rfl mD kD bD .nil aX (aA (pv 0) (aA aC aB))))
   (aD (cB (aS dB (pv 3) aC (bF _)) (aI (aN (i:=1) gD.nd rfl (Or.inl rfl) (aK cU (pv 1) (bZ (aA (bZ (aA aC (aA aC aB))) aB))))) aW)
   (aD (cB (aS dB (pv 3) aC (bF _)) (aI (aN (i:=1) gD.nd rfl (Or.inl rfl) (aK cU (pv 1) (bZ (aA (bZ (aA aC (aA aC aB))) (aA (bZ (aA aC (aA aC aB))) aB)))))) aW)
   (aD (cB (aS dB (pv 3) aC (bF _)) (aI (aN (i:=1) gD.nd rfl (Or.inl rfl) (aK cU (bZ (aA (bZ (aA aC (aA aC aB))) aB)) (pv 1)))) aW)
   (by exact hR)))))),?_⟩
  have sl:sizeLine=16777216:=sizeLine_eq
  refine⟨_,rfl,wl,rfl,hw,fun p ps H1 k1 hwk l6=>?_⟩
  refine⟨_,rfl,wl,rfl,k1.wl,fun l a b c H2 k2 el ba bb bc g1 g2 g3=>?_⟩
  have k02:=k1.trans k2
  refine⟨_,rfl,wl,12,rfl,k02.wl,by decide,by decide,fun way H3 k3 w0 w1=>?_⟩
  have k03:=k02.trans k3
  have hwk3:=(hwk.kp' k2 k1.wl).kp' k3 k02.wl
  have el3:=k3.tup k02.wl el
  obtain⟨xs,hx,pr,ln,bd⟩:=id hwk3
  have lx:xs.length=ps.length:=pr.length
  have bs:∀i:Int,-20<=i->i<=20->Bd i:=fun i h1 h2=>⟨by omega,by omega⟩
  have fin:∀(p':Addr) (ps':List (Int × Int)) (H4:Hp),aV H3 H4->gB H4 p' ps'->tR { nx:=fun _ H'=>Q .non H',rt:=Q } [some (.ref wl),some (.ref p'),some (.ref l),some (.int way)] H4:=fun p' ps' H4 s4 h4=>
   rest _ wl p' l way ps' a b c H4 ((k03.same s4).wl) h4 (s4 _ _ el3) ba bb bc fun x H' kx okx=>q x H' ((k03.same s4).trans kx) okx
  have nx:∀{v:Int} {n:Int},(v=n->False)->decide (V.int v=V.int n)=false:=fun h=>decide_eq_false fun z=>h (V.int.inj z)
  refine⟨_,rfl,rfl,_,rfl,cI (fun c0=>?_) fun c0=>?_⟩
  ·have c0:=V.int.inj (of_decide_eq_true c0)
   refine⟨_,rfl,by show 2<=sizeLine;decide,fun t1 h1=>?_⟩
   obtain⟨G1,hh1,s1,e1⟩:=Ls.alo h1 (.tup [.int 5,.int 5])
   rw [hh1]
   refine⟨by show 1<=sizeLine;decide,fun t2 h2=>?_⟩
   obtain⟨G2,hh2,s2,e2⟩:=Ls.alo h2 (.tup [.ref t1])
   rw [hh2]
   refine⟨p,t2,_,_,rfl,rfl,s2 _ _ (s1 _ _ hx),e2,by show _+1<=sizeLine;omega,fun p' H4 s4 e4=>?_⟩
   have s34:=s1.trans (s2.trans s4)
   have hW:gB H4 p' (ps++[(5,5)]):=gB.snoc e4 (cA (fun v q ⟨b,z1,z2⟩=>⟨b,z1,s34 _ _ z2⟩) pr) (.cons ⟨t1,rfl,s4 _ _ (s2 _ _ e1)⟩ .nil) (by rw [List.length_append];show _+1<=10;omega) bd (all_cons ⟨bs _ (by decide) (by decide),bs _ (by decide) (by decide)⟩ bE)
   refine⟨_,rfl,rfl,_,rfl,fY (nx (by omega)) ⟨_,rfl,rfl,_,rfl,fY (nx (by omega)) ?_⟩⟩
   exact fin p' _ H4 s34 hW
  refine⟨_,rfl,rfl,_,rfl,cI (fun c1=>?_) fun c1=>?_⟩
  ·have c1:=V.int.inj (of_decide_eq_true c1)
   refine⟨_,rfl,by show 2<=sizeLine;decide,fun t1 h1=>?_⟩
   obtain⟨G1,hh1,s1,e1⟩:=Ls.alo h1 (.tup [.int 3,.int 9])
   rw [hh1]
   refine⟨by show 2<=sizeLine;decide,fun t3 h3=>?_⟩
   obtain⟨G3,hh3,s3,e3⟩:=Ls.alo h3 (.tup [.int 8,.int 12])
   rw [hh3]
   refine⟨by show 2<=sizeLine;decide,fun t2 h2=>?_⟩
   obtain⟨G2,hh2,s2,e2⟩:=Ls.alo h2 (.tup [.ref t1,.ref t3])
   rw [hh2]
   refine⟨p,t2,_,_,rfl,rfl,s2 _ _ (s3 _ _ (s1 _ _ hx)),e2,by show _+2<=sizeLine;omega,fun p' H4 s4 e4=>?_⟩
   have s34:=s1.trans (s3.trans (s2.trans s4))
   have hW:gB H4 p' (ps++[(3,9),(8,12)]):=gB.snoc e4 (cA (fun v q ⟨b,z1,z2⟩=>⟨b,z1,s34 _ _ z2⟩) pr) (.cons ⟨t1,rfl,s4 _ _ (s2 _ _ (s3 _ _ e1))⟩ (.cons ⟨t3,rfl,s4 _ _ (s2 _ _ e3)⟩ .nil)) (by rw [List.length_append];show _+2<=10;omega) bd (all_cons ⟨bs _ (by decide) (by decide),bs _ (by decide) (by decide)⟩ (all_cons ⟨bs _ (by decide) (by decide),bs _ (by decide) (by decide)⟩ bE))
   refine⟨_,rfl,rfl,_,rfl,fY (nx (by omega)) ?_⟩
   exact fin p' _ H4 s34 hW
  refine⟨_,rfl,rfl,_,rfl,cI (fun c2=>?_) fun c2=>?_⟩
  ·refine⟨by show 2<=sizeLine;decide,fun t1 h1=>?_⟩
   obtain⟨G1,hh1,s1,e1⟩:=Ls.alo h1 (.tup [.int 7,.int 2])
   rw [hh1]
   refine⟨by show 1<=sizeLine;decide,fun t2 h2=>?_⟩
   obtain⟨G2,hh2,s2,e2⟩:=Ls.alo h2 (.tup [.ref t1])
   rw [hh2]
   refine⟨_,rfl,t2,p,_,_,rfl,rfl,e2,s2 _ _ (s1 _ _ hx),by show 1+_<=sizeLine;omega,fun p' H4 s4 e4=>?_⟩
   have s34:=s1.trans (s2.trans s4)
   have hW:gB H4 p' ([(7,2)]++ps):=gB.snoc e4 (.cons ⟨t1,rfl,s4 _ _ (s2 _ _ e1)⟩ .nil) (cA (fun v q ⟨b,z1,z2⟩=>⟨b,z1,s34 _ _ z2⟩) pr) (by rw [List.length_append];show 1+_<=10;omega) (all_cons ⟨bs _ (by decide) (by decide),bs _ (by decide) (by decide)⟩ bE) bd
   exact fin p' _ H4 s34 hW
  ·exact fin p ps H3 (aV.refl _) hwk3
def oN (p:Int × Int):PyData:=.tuple [.int p.1,.int p.2]
def txD (ps:List (Int × Int)) (a b c:Int) (ls:List Lx):PyData:=.tuple [.tuple (ps.map oN),.int a,.int b,.int c,.tuple (ls.map lxD)]
theorem tK.same {H H':Hp} {r:Addr} {ps:List (Int × Int)} {a b c:Int} {ls:List Lx} (e:aV H H') (h:tK H r ps a b c ls):tK H' r ps a b c ls:=by
 obtain⟨pw,pl,xs,h1,h2,h3,h4⟩:=h
 exact⟨pw,pl,xs,e _ _ h1,h2.same e,e _ _ h3,cA (fun _ _ z=>z.same e) h4⟩
theorem oE {K:Frag} {H:Hp}:∀{xs:List V} {ps:List (Int × Int)},Paired (Ls.PairAt H) xs ps->jF K H xs (ps.map oN)
 | _,_,.nil=>.nil
 | _,_,.cons ⟨b,e,h⟩ t=>by
  subst e
  exact .cons (.tup (SqT.of h) (.cons (.int _) (.cons (.int _) .nil))) (oE t)
theorem vV {K:Frag} {H:Hp}:∀{xs:List V} {ls:List Lx},Paired (LxV H) xs ls->jF K H xs (ls.map lxD)
 | _,_,.nil=>.nil
 | _,_,.cons ⟨b,e,h⟩ t=>by
  subst e
  exact .cons (yQ h) (vV t)
theorem yP {K:Frag} {H:Hp} {r:Addr} {ps:List (Int × Int)} {a b c:Int} {ls:List Lx} (h:tK H r ps a b c ls):RdV K H (.ref r) (txD ps a b c ls):=by
 obtain⟨pw,pl,xs,h1,⟨ys,h2,h2'⟩,h3,h4⟩:=h
 exact .tup (SqT.of h1) (.cons (.tup (SqT.of h2) (oE h2')) (.cons (.int _) (.cons (.int _) (.cons (.int _) (.cons (.tup (SqT.of h3) (vV h4)) .nil)))))
theorem gA {α:Type} (f:α->PyData) (h:∀x,PyData.eqv (f x) (f x)=true):∀xs:List α,PyData.eqvAll (xs.map f) (xs.map f)=true
 | []=>by simp [PyData.eqvAll]
 | x::xs=>by
  rw [List.map_cons,PyData.eqvAll,h x,gA f h xs]
  rfl
theorem wQ (i:Int):PyData.eqv (.int i) (.int i)=true:=by simp [PyData.eqv]
theorem eqv_lx (l:Lx):PyData.eqv (lxD l) (lxD l)=true:=by
 cases l with
 | lent a x b c=>simp [lxD,PyData.eqv,PyData.eqvAll]
 | told a b c ns=>
  have:=gA PyData.int wQ ns
  simp [lxD,PyData.eqv,PyData.eqvAll,this]
 | plain k ns=>
  have:=gA PyData.int wQ ns
  simp [lxD,PyData.eqv,PyData.eqvAll,this]
theorem AaP (p:Int × Int):PyData.eqv (oN p) (oN p)=true:=by simp [oN,PyData.eqv,PyData.eqvAll]
theorem AaO (ps:List (Int × Int)) (a b c:Int) (ls:List Lx):PyData.eqv (txD ps a b c ls) (txD ps a b c ls)=true:=by
 have h1:=gA oN AaP ps
 have h2:=gA lxD eqv_lx ls
 simp [txD,PyData.eqv,PyData.eqvAll,h1,h2]
theorem gd_tx {ps:List (Int × Int)} {a b c:Int} {ls:List Lx} (ok:∀l ∈ ls,LxOk l):Gd 4 (txD ps a b c ls):=by
 refine Gd.tup (n:=3) (bX (Gd.tup (n:=2) fun d hd=>?_) (bX (Gd.int _) (bX (Gd.int _) (bX (Gd.int _) (bX (Gd.tup (n:=2) fun d hd=>?_) fZ)))))
 ·obtain⟨p,_,rfl⟩:=List.mem_map.mp hd
  exact Gd.tup (n:=1) (bX (Gd.int _) (bX (Gd.int _) fZ))
 ·obtain⟨l,hl,rfl⟩:=List.mem_map.mp hd
  exact gd_lx (ok l hl)
theorem rl_ok:∀{rs:List Str} {ls:List Lx},Rl rs ls->(∀r ∈ rs,Tm.okR 90000 r)->∀l ∈ ls,LxOk l
 | _,_,.nil,_=>fun l hl=>absurd hl (by simp)
 | _,_,.cons g t,h=>all_cons (LnG.ok g (Tm.wds_ok (h _ List.mem_cons_self))) (rl_ok t fun r hr=>h r (List.mem_cons_of_mem _ hr))
inductive Dv (H:Hp):V->PyData->Prop where
 | str (x:Str):Dv H (.str x) (.str x)
 | tx {r:Addr} {ps:List (Int × Int)} {a b c:Int} {ls:List Lx} (h:tK H r ps a b c ls):Dv H (.ref r) (txD ps a b c ls)
theorem Dv.same {H H':Hp} {v:V} {D:PyData} (e:aV H H') (h:Dv H v D):Dv H' v D:=by
 cases h with
 | str x=>exact .str x
 | tx h=>exact .tx (h.same e)
theorem Dv.rdv {K:Frag} {H:Hp} {v:V} {D:PyData} (h:Dv H v D):RdV K H v D:=by
 cases h with
 | str x=>exact .str x
 | tx h=>exact yP h
theorem yO {t:Str} (ok:okT t):∃D,Gd 4 D/\PyData.eqv D D=true/\∀H Q E,(∀v H',aV H H'->Dv H' v D->Q v H')->gC [.str t] H Q E:=by
 have st:∀x:Str,PyData.eqv (.str x) (.str x)=true:=fun x=>by simp [PyData.eqv]
 by_cases h:∃ps a b c ls,TxG (rws t) ps a b c ls
 ·obtain⟨ps,a,b,c,ls,hT⟩:=h
  have no:¬ (∀ps a b c ls,¬ TxG (rws t) ps a b c ls):=fun z=>z _ _ _ _ _ hT
  by_cases hw:wkP ps
  ·by_cases hb:bdP a b c
   ·refine⟨txD ps a b c ls,gd_tx ?_,AaO _ _ _ _ _,fun H Q E q=>⟨t,rfl,ok,fun ps' a' b' c' ls' r H' s' g1 _ _ g4=>?_,fun H' _ z=>absurd z no,fun ps' a' b' c' ls' H' _ g1 g2=>?_,fun ps' a' b' c' ls' H' _ g1 _ g3=>?_⟩⟩
    ·obtain⟨r0,rs,e,_,hR⟩:=hT
     exact rl_ok hR fun r hr=>ok.2.1 r (by rw [e];exact List.mem_cons_of_mem _ hr)
    ·obtain⟨rfl,rfl,rfl,rfl,rfl⟩:=hT.fn g1
     exact q _ _ s' (.tx g4)
    ·obtain⟨rfl,_⟩:=hT.fn g1
     exact absurd hw g2
    ·obtain⟨_,rfl,rfl,rfl,_⟩:=hT.fn g1
     exact absurd hb g3
   ·refine⟨.str "bound",Gd.str (by decide +kernel),st _,fun H Q E q=>⟨t,rfl,ok,fun ps' a' b' c' ls' r H' s' g1 _ g3 _=>?_,fun H' _ z=>absurd z no,fun ps' a' b' c' ls' H' _ g1 g2=>?_,fun ps' a' b' c' ls' H' s' _ _ _=>q _ _ s' (.str _)⟩⟩
    ·obtain⟨_,rfl,rfl,rfl,_⟩:=hT.fn g1
     exact absurd g3 hb
    ·obtain⟨rfl,_⟩:=hT.fn g1
     exact absurd hw g2
  ·refine⟨.str "work",Gd.str (by decide +kernel),st _,fun H Q E q=>⟨t,rfl,ok,fun ps' a' b' c' ls' r H' s' g1 g2 _ _=>?_,fun H' _ z=>absurd z no,fun ps' a' b' c' ls' H' s' _ _=>q _ _ s' (.str _),fun ps' a' b' c' ls' H' _ g1 g2 _=>?_⟩⟩
   ·obtain⟨rfl,_⟩:=hT.fn g1
    exact absurd g2 hw
   ·obtain⟨rfl,_⟩:=hT.fn g1
    exact absurd g2 hw
 ·have no:∀ps a b c ls,¬ TxG (rws t) ps a b c ls:=fun ps a b c ls z=>h ⟨ps,a,b,c,ls,z⟩
  exact⟨.str "text",Gd.str (by decide +kernel),st _,fun H Q E q=>⟨t,rfl,ok,fun _ _ _ _ _ _ _ _ g=>absurd g (no _ _ _ _ _),fun H' s' _=>q _ _ s' (.str _),fun _ _ _ _ _ _ _ g=>absurd g (no _ _ _ _ _),fun _ _ _ _ _ _ _ g=>absurd g (no _ _ _ _ _)⟩⟩
theorem read_no {t:Str} (ok:okT t) (no:∀ps a b c ls,¬ TxG (rws t) ps a b c ls) {H:Hp} {Q:VK} {E:XK} (q:∀H',aV H H'->Q (.str "text") H'):gC [.str t] H Q E:=
 ⟨t,rfl,ok,fun _ _ _ _ _ _ _ _ g=>absurd g (no _ _ _ _ _),fun H' s' _=>q _ s',fun _ _ _ _ _ _ _ g=>absurd g (no _ _ _ _ _),fun _ _ _ _ _ _ _ g=>absurd g (no _ _ _ _ _)⟩
def tE:Str:="work span 1 every 1 least 1"
def tF:Str:="work span 1 every 1 least 1\n"
theorem wE {t:Str} (h:rws t=[]) (l:t.length<=1000):okT t:=⟨by omega,by rw [h];exact fun r hr=>absurd hr (by simp),by rw [h];decide⟩
theorem zU {t:Str} (h:rws t=[]):∀ps a b c ls,¬ TxG (rws t) ps a b c ls:=fun ps a b c ls ⟨r0,rs,z,_⟩=>by rw [h] at z;cases z
theorem r0:rws (Str.ofString "")=[]:=by decide +kernel
theorem r1:rws tE=[]:=by decide +kernel
theorem r2:rws (Str.ofString "\n")=[Str.ofString ""]:=by decide +kernel
theorem r3:rws tF=[tE]:=by decide +kernel
theorem ok2:okT (Str.ofString "\n"):=⟨by decide +kernel,by rw [r2];exact all_cons fI bE,by rw [r2];decide⟩
theorem no2:∀ps a b c ls,¬ TxG (rws (Str.ofString "\n")) ps a b c ls:=fun ps a b c ls ⟨r0,rs,z,h,_⟩=>by
 rw [r2] at z
 cases z
 have:=h.len
 exact absurd this (by decide +kernel)
def okRC (u:Str):Bool:=decide (u.length<=90000) && (Tm.sg u).all fun c=>decide (32<=c) && decide (c<=126)
theorem okRC_t {u:Str} (h:okRC u=true):Tm.okR 90000 u:=by
 unfold okRC at h
 rw [Bool.and_eq_true,decide_eq_true_eq,List.all_eq_true] at h
 refine⟨h.1,fun c hc=>?_⟩
 have:=h.2 c hc
 rw [Bool.and_eq_true,decide_eq_true_eq,decide_eq_true_eq] at this
 exact this
theorem ok3:okT tF:=⟨by decide +kernel,by rw [r3];exact all_cons (okRC_t (by decide +kernel)) bE,by rw [r3];decide⟩
theorem n1:cQ (Str.ofString "1")=true:=by decide +kernel
theorem v1:cL (Str.ofString "1")=1:=by
 have h:=iE n1
 have h1:PySem.intText? (Str.ofString "1")=some 1:=by
  have:=Tm.num_reads (i:=1) ⟨by decide,by decide⟩
  rw [show Tm.numT 1=Str.ofString "1" by decide +kernel] at this
  exact this
 rw [h1] at h
 exact(Option.some.inj h).symm
theorem tx3:TxG (rws tF) [] 1 1 1 []:=by
 rw [r3]
 refine⟨tE,[],rfl,⟨[],"1","1","1",by decide +kernel,rfl,fun u hu=>absurd hu (by simp),n1,n1,n1,rfl,v1.symm,v1.symm,v1.symm⟩,.nil⟩
theorem wk3:wkP []:=⟨fun j o h=>by simp at h,fun k l h l' h' e=>by simp at e⟩
theorem bd3:bdP 1 1 1:=⟨by decide,by decide,by decide,by decide⟩
theorem iM {s z:Str}:∀{ps:List Str},ps≠[]->Str.join s (ps++[z])=Str.join s ps++s++z
 | [],h=>absurd rfl h
 | [p],_=>rfl
 | p::q::r,_=>by
  have:=iM (s:=s) (z:=z) (ps:=q::r) (by simp)
  show Str.join s (p::q::(r++[z]))=_
  rw [Tm.join_two,Tm.join_two]
  rw [show q::(r++[z])=(q::r)++[z] from rfl,this]
  simp only [Str.append_assoc]
theorem text_ok {rows:List Str} {M N:Nat} {z:Str} (h:dP M rows) (hM:M<=12000) (hN:rows.length<=N) (hN':N<=70) (hz:z ∈ ([⟨#[10]⟩,⟨#[10]⟩,Str.ofString "",⟨#[10,10]⟩]:List Str)):okT (Str.join ⟨#[10]⟩ rows++z):=by
 have key:∀rs:List Str,rs≠[]->dP M rs->rs.length<=73->okT (Str.join ⟨#[10]⟩ rs):=fun rs hne hok hl=>by
  have sp:Txt.split (Str.join ⟨#[10]⟩ rs) ⟨#[10]⟩=rs:=Tm.split_join hne fun p hp z=>by have:=(hok p hp).2 10 z;omega
  have rw':rws (Str.join ⟨#[10]⟩ rs)=rs.dropLast:=by unfold rws;rw [sp]
  refine⟨?_,fun r hr=>?_,?_⟩
  ·have:=Tm.join_le (c:=10) (B:=M) fun p hp=>(hok p hp).1
   have:rs.length * (M+1)<=73 * 12001:=Nat.mul_le_mul hl (by omega)
   omega
  ·rw [rw'] at hr
   exact eQ (hok r ((List.dropLast_sublist rs).subset hr)) (by omega)
  ·rw [rw',List.length_dropLast]
   omega
 have oe:dP M [Str.ofString ""]:=dP.one fI
 obtain⟨rs,hne,hok,hl,e⟩:∃rs:List Str,rs≠[]/\dP M rs/\rs.length<=71/\Str.join ⟨#[10]⟩ rows=Str.join ⟨#[10]⟩ rs:=by
  cases rows with
  | nil=>exact⟨[Str.ofString ""],by simp,oe,by show 1<=71;decide,by decide +kernel⟩
  | cons a t=>exact⟨a::t,by simp,h,by omega,rfl⟩
 rw [e]
 have ee:∀x:Str,x++Str.ofString ""=x:=fun x=>Tm.sg_ext (by rw [Tm.sg_app,show Tm.sg (Str.ofString "")=[] by decide +kernel,List.append_nil])
 have one:okT (Str.join ⟨#[10]⟩ rs++⟨#[10]⟩):=by
  have:=key (rs++[Str.ofString ""]) (by simp) (hok.app oe) (by rw [List.length_append];show _+1<=73;omega)
  rw [iM hne,ee] at this
  exact this
 simp only [List.mem_cons,List.not_mem_nil,or_false] at hz
 rcases hz with rfl|rfl|rfl|rfl
 ·exact one
 ·exact one
 ·rw [ee]
  exact key rs hne hok (by omega)
 ·have:=key ((rs++[Str.ofString ""])++[Str.ofString ""]) (by simp) ((hok.app oe).app oe) (by rw [List.length_append,List.length_append];show _+1+1<=73;omega)
  rw [iM (by simp),ee,iM hne,ee,Str.append_assoc] at this
  exact this
def vN (K:Frag):Sp:=fun vs H Q _=>∃(a:Addr) (ns:List Int),vs=[.ref a]/\SqL K H a (ns.map V.int)/\ns.length<=63/\∀H',Q (.bl true) H'
theorem vS {w:Addr} {H H1 H2:Hp} (s:aV H H1) (n:H w=none) (k:Kp w H1 H2):aV H H2:=fun x o e=>k.at_ x o (aL e n) (s x o e)
theorem ndKW:(["_law_k","_law_well_here"]:List Str).Nodup:=by decide +kernel
theorem vA {H:Hp} {r w:Addr} {rows:List Str} (h:H r=some (.lst (rows.map V.str))) (hw:Wl H w):r≠w:=fun z=>by
 obtain⟨a,b,c,e⟩:=hw
 rw [z,e] at h
 cases rows with
 | nil=>cases h
 | cons x t=>cases h
structure kJ (P:Program) (w:World) (K:PySem.W.Frag) (mg:Str->Option Value) (base:Heap) (k:Nat) (x:Str) (ps:List Str) (sp:Sp) (f:Addr) (fd:FuncData):Prop where
 g:aY P w K mg base CX0 k f fd ps sp
 k:keepIn K (.ref f)=true
 b:bV K fd ps []
 m:mg x=some (.ref f)
def spFd:Sp:=fun vs H Q E=>gC vs H Q E\/yH vs H Q E
def odds (t l p:V):List V:=[.non,.int 5,.bl true,l,p,.str "",.str "\n",.str tE]
theorem hV:bO ["_law_script","_law_well_here","_law_rows","_law_k","_law_some","_law_turn","_law_text","_law_due","_law_odd"] ["_law_script"] (aM qB):=⟨rfl,rfl,rfl,by decide +kernel,rfl,by decide +kernel,by decide +kernel⟩
def forBody:Stmt->List Stmt
 | .For _ _ b _ _=>b
 | _=>[]
theorem AaB {f fD fR fB fF:Addr} {fdD fdR fdB fdF:FuncData} {cdv:Value} {A:Around} {outer:List Env} {s:Shared} {H:Hp} {E:XK} (G:Gb mg)
  (LD:kJ P w K mg base 7 "_law_draw" ["_law_well_here","_law_most"] eD fD fdD) (LR:kJ P w K mg base 7 "_law_read" ["_law_text"] gC fR fdR) (LB:kJ P w K mg base 7 "_law_is_beyond" ["_law_row"] jH fB fdB) (LF:kJ P w K mg base 7 "_law_found" ["_law_text"] spFd fF fdF)
  (hr:eS 7 (A.deeper (PyProof.Rows.envOfC "law" (aM qB) s.heap.objs.size f cdv))):
  ∃t,PSs (iS CX0 P w K mg base ["_law_script","_law_well_here","_law_rows","_law_k","_law_some","_law_turn","_law_text","_law_due","_law_odd"] "law" (aM qB) f cdv A outer s H E).nox ((forBody ((dA qB).getD 2 (.Pass ⟨0,0,0,0⟩))).drop 3) t /\
   ∀(D:jV) (a wl lr ls:Addr) (kk:Int) (rows:List Str) (o5 o6 o7 o8:Option V) (H2:Hp),Wl H2 wl->H2 ls=some (.lst (rows.map V.str))->dP 11480 rows->rows.length<=63 ->
    (∀o6 o7 o8 H',Kp wl H2 H'->D.nx [some (.ref a),some (.ref wl),some (.ref lr),some (.int kk),some (.ref ls),o5,o6,o7,o8] H') ->
    t D [some (.ref a),some (.ref wl),some (.ref lr),some (.int kk),some (.ref ls),o5,o6,o7,o8] H2:=by
 refine⟨_,(aD (aN (i:=6) hV.nd rfl (Or.inl rfl) (aK dM (fU PySem.F.plainAttrs_str PySem.F.slot_str_join PySem.F.type_str_join jM aF (aA (pv 4) aB)) (aZ aR (bU (aA aF (aA aF (aA aF (aA aF aB))))) (aH LD.g hr rfl LD.m LD.k LD.b .nil aX (aA (pv 1) (aA aC aB))) (fun _ _=>rfl))))
  (aD (aN (i:=7) hV.nd rfl (Or.inl rfl) (aH LR.g hr rfl LR.m LR.k LR.b .nil aX (aA (pv 6) aB)))
  (aD (cB (PW.pt (jY (dL (dX (aH LB.g hr rfl LB.m LB.k LB.b .nil aX (aA (aZ aR (aK cE (pv 4) (bU (aA aF aB))) aC (fun _ _=>rfl)) aB)))) (iH (aS (uW hr.units) (bU (aA (aH LF.g hr rfl LF.m LF.k LF.b .nil aX (aA (pv 6) aB)) (aA (aH LF.g hr rfl LF.m LF.k LF.b .nil aX (aA (pv 6) aB)) aB))) (bU (aA (pv 7) (aA (pv 7) aB))) (bF _))))) (aI (aT hZ)) aW)
  (aD (aN (i:=8) hV.nd rfl (Or.inl rfl) (aZ aR (jL (pcc eU (pcc aC (pcc hZ (pcc (bU (aA (pv 6) aB)) (pcc (bZ (aA (pv 6) aB)) (pcc aF (pcc aF (pcc aF pcn))))))))) (aH LD.g hr rfl LD.m LD.k LD.b .nil aX (aA (pv 1) (aA aC aB))) (fun _ _=>rfl)))
  (aI (cB (aS kK (aH LF.g hr rfl LF.m LF.k LF.b .nil aX (aA (pv 8) aB)) aF (bF _)) (aI (aT hZ)) aW)))))),?_⟩
 intro D a wl lr ls kk rows o5 o6 o7 o8 H2 hw hls okr rl nx
 have sl:sizeLine=16777216:=sizeLine_eq
 have sm:(rows.map fun y=>y.length).sum<=rows.length * 11480:=tW (fun y:Str=>y.length) 11480 rows fun y hy=>(okr y hy).1
 have sm2:rows.length * 11480<=63 * 11480:=Nat.mul_le_mul_right _ rl
 have l10:(Str.ofString "\n").length=1:=by decide +kernel
 refine⟨rfl,_,rfl,_,ls,rows,rfl,rfl,SqL.of hls,by rw [l10];omega,?_⟩
 refine⟨by show 4<=sizeLine;decide,fun l1 h1=>?_⟩
 obtain⟨H3,hh3,s3',e3⟩:=Ls.alo h1 (.lst (([Str.ofString "\n",Str.ofString "\n",Str.ofString "",Str.ofString "\n\n"]:List Str).map V.str))
 have hh3:upd H2 l1 (.lst [.str "\n",.str "\n",.str "",.str "\n\n"])=H3:=hh3
 rw [hh3]
 have k3:Kp wl H2 H3:=(Kp.refl hw).same s3'
 have n1':l1≠wl:=(hw.ne h1).symm
 refine⟨_,rfl,wl,4,rfl,k3.wl,by decide,by decide,fun o H4 k4 o0 o1=>?_⟩
 have k24:=k3.trans k4
 obtain⟨z,hz,ez⟩:=oG (ns:=[Str.ofString "\n",Str.ofString "\n",Str.ofString "",Str.ofString "\n\n"]) o0 (by show o<4;exact o1)
 have nls:ls≠wl:=vA hls hw
 refine⟨l1,_,_,_,rfl,rfl,SqL.of (k4.at_ _ _ n1' e3),ez,?_⟩
 rw [show Str.ofString "\n\n"=⟨#[10,10]⟩ by decide +kernel,c10] at hz
 have okt:=text_ok okr (by decide) rl (by decide) hz
 have ej:Txt.join (Str.ofString "\n") rows=Str.join ⟨#[10]⟩ rows:=by rw [c10];exact StrLaws.glued_eq_join _ _
 have jl:(Str.join ⟨#[10]⟩ rows).length<=1000000:=by
  have:=okt.1
  rw [Tm.len_app] at this
  omega
 have zl:z.length<=1000000:=by
  have:=okt.1
  rw [Tm.len_app] at this
  omega
 refine⟨_,_,rfl,rfl,by rw [ej];omega,?_⟩
 rw [ej]
 generalize Str.join ⟨#[10]⟩ rows++z=t at okt ⊢
 obtain⟨dt,gd,ev,rd⟩:=yO okt
 refine⟨_,rfl,?_⟩
 unfold kT
 refine rd _ _ _ fun v H5 s5 dv=>?_
 have k25:=k24.same s5
 have hls5:=k25.at_ _ _ nls hls
 have fnd:∀(u:V) (Hx:Hp) (Q:VK) (E':XK),(NoS Hx u\/∃t,u=.str t/\okT t/\∀ps a b c ls,¬ TxG (rws t) ps a b c ls)->(∀H',aV Hx H'->Q (.str "text") H')->spFd [u] Hx Q E':=fun u Hx Q E' h q=>by
  rcases h with h|⟨t,rfl,ok,no⟩
  ·exact .inr ⟨u,rfl,h,q⟩
  ·exact .inl (read_no ok no q)
 refine⟨_,rfl,by show 1<=sizeLine;decide,fun l2 h2=>?_⟩
 obtain⟨H6,hh6,s6,e6⟩:=Ls.alo h2 (.lst ([Str.ofString ""].map V.str))
 have hh6:upd H5 l2 (.lst [.str ""])=H6:=hh6
 rw [hh6]
 refine⟨ls,l2,_,_,rfl,rfl,s6 _ _ hls5,e6,by rw [List.length_map];show _+1<=sizeLine;omega,fun l3 h3=>?_⟩
 rw [<- List.map_append]
 obtain⟨H7,hh7,s7,e7⟩:=Ls.alo h3 (.lst ((rows++[Str.ofString ""]).map V.str))
 rw [hh7]
 obtain⟨za,ea,ma⟩:=pick0 (ys:=rows)
 have oka:Tm.okR 90000 za:=ma.elim (fun z=>eQ (okr _ z) (by decide)) (fun z=>by rw [z];exact fI)
 refine⟨l3,_,_,_,rfl,rfl,SqL.of e7,ea,za,rfl,oka,fun bb H8 s8=>⟨_,rfl,?_⟩⟩
 have s58:aV H5 H8:=s6.trans (s7.trans s8)
 refine cI (fun c=>?_) (fun c=>eM ?_)
 rotate_left
 have s59:=s58
 generalize H8=H9 at s59 ⊢
 rotate_left
 refine⟨_,rfl,.inl (rd _ _ _ fun v1 H10 s10 d1=>?_)⟩
 refine⟨_,rfl,.inl (rd _ _ _ fun v2 H11 s11 d2=>?_)⟩
 refine⟨by show 2<=sizeLine;decide,fun l4 h4=>?_⟩
 obtain⟨H12,hh12,s12,e12⟩:=Ls.alo h4 (.lst [v1,v2])
 rw [hh12]
 refine⟨_,rfl,_,rfl,by show 2<=sizeLine;decide,fun l5 h5=>?_⟩
 obtain⟨H9,hh9,s9,e9⟩:=Ls.alo h5 (.lst [v,v])
 rw [hh9]
 have s119:=s12.trans s9
 have s59:aV H5 H9:=s58.trans (s10.trans (s11.trans s119))
 have gl:SeqAt.shaped (.list [dt,dt])=true:=(Gd.lst (n:=4) (bX gd (bX gd fZ))).shaped (by decide)
 refine⟨.list [dt,dt],.list [dt,dt],.lst (SqL.of (s9 _ _ e12)) (.cons ((d1.same (s11.trans s119)).rdv) (.cons ((d2.same s119).rdv) .nil)),.lst (SqL.of e9) (.cons ((dv.same s59).rdv) (.cons ((dv.same s59).rdv) .nil)),gl,gl,_,rfl,?_⟩
 rw [show PyData.eqv (.list [dt,dt]) (.list [dt,dt])=true by simp [PyData.eqv,PyData.eqvAll,ev]]
 refine eM ?_
 all_goals
  have k29:=k25.same s59
  refine⟨_,rfl,by show 1<=sizeLine;decide,fun l6 h6=>?_⟩
  obtain⟨G1,hg1,g1,eg1⟩:=Ls.alo h6 (.lst [.str t])
  rw [hg1]
  refine⟨_,rfl,by show 1<=sizeLine;decide,fun t6 h6'=>?_⟩
  obtain⟨G2,hg2,g2,eg2⟩:=Ls.alo h6' (.tup [.str t])
  rw [hg2]
  refine⟨by show 8<=sizeLine;decide,fun l7 h7=>?_⟩
  obtain⟨G3,hg3,g3,eg3⟩:=Ls.alo h7 (.lst (odds (.str t) (.ref l6) (.ref t6)))
  have hg3:upd G2 l7 (.lst [.non,.int 5,.bl true,.ref l6,.ref t6,.str "",.str "\n",.str "work span 1 every 1 least 1"])=G3:=hg3
  rw [hg3]
  have kG:Kp wl H2 G3:=k29.same (g1.trans (g2.trans g3))
  have n7:l7≠wl:=((k29.same (g1.trans g2)).wl.ne h7).symm
  have n6:l6≠wl:=(k29.wl.ne h6).symm
  refine⟨_,rfl,wl,8,rfl,kG.wl,by decide,by decide,fun o' G4 k4' p0 p1=>?_⟩
  have el6:=k4'.at_ _ _ n6 (g3 _ _ (g2 _ _ eg1))
  have et6:=k4'.tup kG.wl (g3 _ _ eg2)
  obtain⟨u,eu,hu⟩:∃u,atI (odds (.str t) (.ref l6) (.ref t6)) o'=some u/\(NoS G4 u\/∃t,u=.str t/\okT t/\∀ps a b c ls,¬ TxG (rws t) ps a b c ls):=by
   obtain⟨n,rfl⟩:∃n:Nat,o'=(n:Int):=⟨o'.toNat,by omega⟩
   obtain rfl|rfl|rfl|rfl|rfl|rfl|rfl|rfl:n=0\/n=1\/n=2\/n=3\/n=4\/n=5\/n=6\/n=7:=by omega
   ·exact⟨_,aJ (j:=0) rfl,.inl .non⟩
   ·exact⟨_,aJ (j:=1) rfl,.inl (.int _)⟩
   ·exact⟨_,aJ (j:=2) rfl,.inl (.bl _)⟩
   ·exact⟨_,aJ (j:=3) rfl,.inl (.lst el6)⟩
   ·exact⟨_,aJ (j:=4) rfl,.inl (.tup et6)⟩
   ·exact⟨_,aJ (j:=5) rfl,.inr ⟨_,rfl,wE r0 (by decide +kernel),zU r0⟩⟩
   ·exact⟨_,aJ (j:=6) rfl,.inr ⟨_,rfl,ok2,no2⟩⟩
   ·exact⟨_,aJ (j:=7) rfl,.inr ⟨_,rfl,wE r1 (by decide +kernel),zU r1⟩⟩
  refine⟨l7,_,_,_,rfl,rfl,SqL.of (k4'.at_ _ _ n7 eg3),eu,?_⟩
  refine⟨_,rfl,?_⟩
  refine fnd u G4 _ _ hu fun G5 g5=>?_
  refine⟨rfl,_,rfl,fY (by rw [decide_eq_true rfl];rfl) ?_⟩
  exact nx _ _ _ G5 ((kG.trans k4').same g5)
theorem ln_row {H:Hp} {p:Addr} {l:Ln} (h:LnAt H p l) (ok:l.Ok):Tm.okR 1400 (mF l.vs):=by
 refine vT (Ln.parts ok) ?_
 cases l with
 | told a b c ns=>
  obtain⟨_,_,_,h4,_⟩:=ok
  show ([V.str "told",.int a,.int b,.int c]++ns.map V.int).length<=45
  rw [List.length_append,List.length_map]
  show 4+_<=45
  omega
 | lent=>show 5<=45;decide
 | back=>show 3<=45;decide
 | cut=>show 3<=45;decide
 | join=>show 2<=45;decide
theorem rR {K:Frag} {H:Hp}:∀ws:List Str,jF K H (ws.map V.str) (ws.map PyData.str)
 | []=>.nil
 | w::ws=>.cons (.str w) (rR ws)
theorem gd_strs {M:Nat} {ws:List Str} (h:dP M ws):∀d ∈ ws.map PyData.str,Gd 0 d:=fun d hd=>by
 obtain⟨u,hu,rfl⟩:=List.mem_map.mp hd
 refine Gd.str ?_
 unfold PyData.strOk
 rw [<- Array.all_toList,List.all_eq_true]
 intro c hc
 have:=(h u hu).2 c hc
 exact decide_eq_true (by omega)
theorem eqv_nil (ws:List Str):PyData.eqv (.list (ws.map PyData.str)) (.list [])=decide (ws=[]):=by
 cases ws with
 | nil=>simp [PyData.eqv,PyData.eqvAll]
 | cons a t=>simp [PyData.eqv,PyData.eqvAll]
theorem ok_law {f fD fR fB fF fW fS fL fE fX:Addr} {fd fdD fdR fdB fdF fdW fdS fdL fdE fdX:FuncData} (F:Fun K "law" "law" qB f fd) (G:Gb mg)
  (LD:kJ P w K mg base 7 "_law_draw" ["_law_well_here","_law_most"] eD fD fdD) (LR:kJ P w K mg base 7 "_law_read" ["_law_text"] gC fR fdR) (LB:kJ P w K mg base 7 "_law_is_beyond" ["_law_row"] jH fB fdB) (LF:kJ P w K mg base 7 "_law_found" ["_law_text"] spFd fF fdF)
  (LW:kJ P w K mg base 7 "_law_well" ["_law_script","_law_k"] (tX K) fW fdW) (LS:kJ P w K mg base 7 "_law_some_head" ["_law_well_here"] pL fS fdS) (LL:kJ P w K mg base 7 "_law_line_text" ["_law_line"] uB fL fdL) (LE:kJ P w K mg base 7 "_law_free_line" ["_law_well_here"] uD fE fdE) (LX:kJ P w K mg base 7 "_law_spoilt_rows" ["_law_well_here","_law_rows"] spSpR fX fdX):
  aY P w K mg base CX0 8 f fd ["_law_script"] (vN K):=by
 refine F.ok hV (fun vs H Q E h=>?_) (fun cdv A outer s H vs Q E hr h=>?_)
 ·obtain⟨a,ns,rfl,_⟩:=h
  rfl
 ·obtain⟨a,ns,rfl,hS,hl,q⟩:=h
  obtain⟨tR,pR,hR⟩:=AaB (f:=f) (cdv:=cdv) (A:=A) (outer:=outer) (s:=s) (H:=H) (E:=E) G LD LR LB LF hr
  refine⟨_,aD (aN (i:=1) hV.nd rfl (Or.inr rfl) (aH LW.g hr rfl LW.m LW.k LW.b .nil aX (aA (pv 0) (aA aC aB))))
   (aD (aN (i:=2) hV.nd rfl (Or.inl rfl) (aK cE (bU (aA (aH LS.g hr rfl LS.m LS.k LS.b .nil aX (aA (pv 1) aB)) aB))
     (eP (NB:=["_law_k","_law_well_here"]) (n:=1) (js:=[1]) (g:=dS 0) (cl:=[("_law_well_here",s.heap.objs.size+1)]) rfl (by decide +kernel) (by decide +kernel) rfl
      (dZ.of rfl (all_cons rfl bE) (all_cons (fun z=>nomatch z) (all_cons (fun z=>nomatch z) (all_cons (fun z=>nomatch z) (all_cons (fun z=>nomatch z) (all_cons (fun _=>rfl) bE))))) rfl (fun k j h=>match k,j,h with|0,_,rfl=>rfl|k+1,_,h=>absurd h (by simp)) (all_cons ⟨.inl rfl,.inl rfl,rfl⟩ bE))
      (gI rfl G.range (aA (aH LD.g hr rfl LD.m LD.k LD.b .nil aX (aA (pv 1) (aA aC aB))) aB)) (fun C s H fp pn=>cC (i:=0) ndKW rfl (Or.inl rfl) (.inr rfl)) (fun C s H fp pn=>dF)
      (fun C s H fp pn=>aQ lY (aH LL.g hr rfl LL.m LL.k LL.b .nil aX (aA (aH LE.g hr rfl LE.m LE.k LE.b .nil aX (aA (pv 1) aB)) aB)) bI (aU (fT dW aC))))))
   (aD (gR PassesOwn.never rfl (oI rfl G.range (aA aC (aA aC aB))) (cC (i:=3) hV.nd rfl (Or.inl rfl))
    (aD (aN (i:=1) hV.nd rfl (Or.inr rfl) (aH LW.g hr rfl LW.m LW.k LW.b .nil aX (aA (pv 0) (aA (pv 3) aB))))
    (aD (aN (i:=4) hV.nd rfl (Or.inl rfl) (cF qV (by rfl) G.list Ls.boot_l (aA (pv 2) aB)))
    (aD (gR PassesOwn.never rfl (gI rfl G.range (aA (aH LD.g hr rfl LD.m LD.k LD.b .nil aX (aA (pv 1) (aA aC aB))) aB)) (cC (i:=5) hV.nd rfl (Or.inl rfl))
     (aI (aN (i:=4) hV.nd rfl (Or.inl rfl) (aH LX.g hr rfl LX.m LX.k LX.b .nil aX (aA (pv 1) (aA (aK cE (pv 4) (aK op_rep (bU (aA aF aB)) (cF gO (by rfl) G.int gU (aA (dN (zE hr.units) (pv 4) (bU aB) (bF _)) aB)))) aB))))))
    (by exact pR)))))
   (aI (aT (dN (zE hr.units) (aH LF.g hr rfl LF.m LF.k LF.b .nil aX (aA aF aB)) (bZ (aA (bZ aB) (aA aC (aA aC (aA aC (aA (bZ aB) aB)))))) (bF _)))))),?_⟩
  have sl:sizeLine=16777216:=sizeLine_eq
  refine⟨_,rfl,a,ns,0,rfl,hS,hl,fun w' H1 s1 nw' wl1=>?_⟩
  refine⟨_,rfl,w',rfl,wl1,fun x0 H2 k2 okx=>⟨by show 1<=sizeLine;decide,fun l1 h1=>?_⟩⟩
  obtain⟨H3,hh3,s3',e3⟩:=Ls.alo h1 (.lst ([x0].map V.str))
  have hh3:upd H2 l1 (.lst [.str x0])=H3:=hh3
  rw [hh3]
  have k3:Kp w' H1 H3:=k2.same s3'
  have nl1:l1≠w':=(k2.wl.ne h1).symm
  refine⟨_,rfl,w',7,rfl,k3.wl,by decide,by decide,fun rn H4 k4 r0 r1=>?_⟩
  have k14:=k3.trans k4
  refine⟨rn,rfl,by omega,by omega,fun acc hacc=>?_⟩
  have na:acc≠w':=(k14.wl.ne hacc).symm
  have na1:acc≠l1:=fun z=>by
   have:=k4.at_ _ _ nl1 e3
   rw [<- z,hacc] at this
   cases this
  refine⟨fun i m ys H'=>m=rn.toNat-i/\i<=rn.toNat/\(∃zs:List Str,ys=zs.map V.str/\zs.length=i/\dP 1400 zs)/\Kp w' H4 H'/\H' acc=some (.lst ys),⟨_,rfl,Nat.zero_le _,⟨[],rfl,rfl,fun r hr=>absurd hr (by simp)⟩,(Kp.refl k14.wl).upd na hacc,aE⟩,?_⟩
  rintro i m ys H5 ⟨rfl,hi,⟨zs,rfl,hzl,hz⟩,k5,hA⟩
  refine⟨hA,?_⟩
  by_cases hlt:i<rn.toNat
  ·refine .inr ⟨hlt,?_⟩
   rintro v H'' ⟨rfl,rfl⟩
   refine dC ?_
   refine⟨rfl,?_⟩
   refine dH ?_
   refine cZ ?_
   refine⟨_,rfl,w',rfl,k5.wl,fun p ln H6 k6 hln okl=>?_⟩
   refine⟨p,ln.vs,rfl,hln.is okl,fun H7 s7=>⟨1,rfl,_,rfl,?_⟩⟩
   have okr:=ln_row hln okl
   have hA7:=s7 _ _ (k6.at_ _ _ na hA)
   refine⟨_,rfl,?_,?_⟩
   ·rw [lF,Tm.len_app]
    have:=okr.1
    show _+1<=sizeLine
    omega
   rw [lF,show Txt.slice (mF ln.vs++⟨#[10]⟩) none (some (-1))=mF ln.vs from lW]
   refine⟨hA7,by rw [List.length_map];omega,_,?_,rfl,hlt,⟨zs++[mF ln.vs],by rw [List.map_append];rfl,by rw [List.length_append,hzl];rfl,hz.app (dP.one okr)⟩,((k5.trans k6).same s7).upd na hacc,aE⟩
   omega
  refine .inl ⟨by show _<=i;omega,?_⟩
  have e5:H5 l1=some (.lst ([x0].map V.str)):=k5.at_ _ _ nl1 (k4.at_ _ _ nl1 e3)
  refine⟨l1,acc,_,_,rfl,rfl,e5,hA,by rw [List.length_map,List.length_map];show 1+_<=sizeLine;omega,fun lr hlr=>?_⟩
  rw [<- List.map_append]
  have k15:=k14.trans k5
  have s05:aV H H5:=vS s1 nw' k15
  obtain⟨H6,hh6,s6,e6⟩:=Ls.alo hlr (.lst (([x0]++zs).map V.str))
  rw [hh6]
  have okrows:dP 1400 ([x0]++zs):=(dP.one okx).app hz
  have lrows:([x0]++zs).length<=7:=by rw [List.length_append];show 1+_<=7;omega
  have s06:=s05.trans s6
  have wl6:Wl H6 w':=k15.wl.same s6
  have n6:lr≠w':=(k15.wl.ne hlr).symm
  generalize [x0]++zs=rows at *
  refine⟨1,31,rfl,⟨by decide,by decide,by decide,by decide⟩,iN (lo:=1) (n:=(31-1:Int).toNat) (fun i σ G=>aV H6 G/\∃o1 o3 o4 o5 o6 o7 o8,σ=[some (.ref a),o1,some (.ref lr),o3,o4,o5,o6,o7,o8]) ⟨aV.refl _,_,_,_,_,_,_,_,rfl⟩ ?_ ?_⟩
  ·rintro i σ G hi ⟨sG,o1,o3,o4,o5,o6,o7,o8,rfl⟩
   have hSG:=(s06.trans sG).seq hS
   have eG:=sG _ _ e6
   refine⟨_,rfl,_,rfl,a,ns,1+i,by rw [Int.natCast_add];rfl,hSG,hl,fun wl G1 g1 nwl wlG=>?_⟩
   have eG1:=g1 _ _ eG
   refine⟨_,rfl,lr,_,rfl,.inl (SqL.of eG1),fun l2 h2=>?_⟩
   obtain⟨G2,hg2,g2,eg2⟩:=Ls.alo h2 (.lst (rows.map V.str))
   rw [hg2]
   have kp2:Kp wl G1 G2:=(Kp.refl wlG).same g2
   refine⟨_,rfl,wl,4,rfl,kp2.wl,by decide,by decide,fun tn G3 k3' t0 t1=>?_⟩
   have nl2:l2≠wl:=(wlG.ne h2).symm
   have kp3:=kp2.trans k3'
   refine⟨tn,rfl,by omega,by omega,iN (lo:=0) (n:=tn.toNat) (fun j σ G'=>Kp wl G1 G'/\(∃(ls:Addr) (rows':List Str),G' ls=some (.lst (rows'.map V.str))/\dP (1440 * 2 ^ j-40) rows'/\rows'.length<=8 * 2 ^ j-1/\∃o5,σ=[some (.ref a),some (.ref wl),some (.ref lr),some (.int (1+(i:Int))),some (.ref ls),o5,o6,o7,o8])) ⟨kp3,l2,rows,k3'.at_ _ _ nl2 eg2,okrows,lrows,_,rfl⟩ ?_ ?_⟩
   ·rintro j σ G4 hj ⟨kp4,ls,rows',els,okr,lr',o5',rfl⟩
    have hj3:j=0\/j=1\/j=2:=by omega
    have nls:ls≠wl:=vA els kp4.wl
    refine⟨_,rfl,_,rfl,by show 1<=sizeLine;decide,fun l3 h3=>?_⟩
    obtain⟨G5,hg5,g5,eg5⟩:=Ls.alo h3 (.lst [.str ""])
    rw [hg5]
    refine⟨_,rfl,by show 0<=sizeLine;omega,fun l4 h4=>?_⟩
    obtain⟨G6,hg6,g6,eg6⟩:=Ls.alo h4 (.lst [])
    rw [hg6]
    have g46:=g5.trans g6
    refine⟨.list (rows'.map PyData.str),.list [],.lst (SqL.of (g46 _ _ els)) (rR rows'),.lst (SqL.of eg6) .nil,(Gd.lst (n:=0) (gd_strs okr)).shaped (by decide),(Gd.lst (n:=0) fZ).shaped (by decide),.inr ⟨_,rfl,?_⟩⟩
    rw [eqv_nil]
    refine⟨l3,_,_,rfl,rfl,g6 _ _ eg5,?_,?_,?_,fun l5 h5=>?_⟩
    ·split <;> omega
    ·split <;> omega
    ·split
     ·show 1 * (1:Int).toNat<=sizeLine;decide
     ·show 1 * (0:Int).toNat<=sizeLine;decide
    obtain⟨ex,hex,lex⟩:∃ex:List Str,(List.replicate (if decide (rows'=[])=true then(1:Int) else 0).toNat [V.str (Str.ofString "")]).flatten=ex.map V.str/\((rows'=[]/\ex=[Str.ofString ""])\/(rows'≠[]/\ex=[])):=by
     by_cases z:rows'=[]
     ·rw [if_pos (decide_eq_true z)]
      exact⟨[Str.ofString ""],rfl,.inl ⟨z,rfl⟩⟩
     ·rw [if_neg (fun y=>z (of_decide_eq_true y))]
      exact⟨[],rfl,.inr ⟨z,rfl⟩⟩
    rw [hex]
    obtain⟨G7,hg7,g7,eg7⟩:=Ls.alo h5 (.lst (ex.map V.str))
    rw [hg7]
    have g47:=g46.trans g7
    have lex1:ex.length<=1:=by rcases lex with ⟨_,rfl⟩|⟨_,rfl⟩ <;> decide
    have nl':rows'.length<=63:=by rcases hj3 with rfl|rfl|rfl <;> omega
    refine⟨ls,l5,_,_,rfl,rfl,g47 _ _ els,eg7,by rw [List.length_map,List.length_map];omega,fun l6 h6=>?_⟩
    rw [<- List.map_append]
    obtain⟨G8,hg8,g8,eg8⟩:=Ls.alo h6 (.lst ((rows'++ex).map V.str))
    rw [hg8]
    have kp8:Kp wl G1 G8:=kp4.same (g47.trans g8)
    have okex:dP (1440 * 2 ^ j-40) (rows'++ex):=okr.app (by rcases lex with ⟨_,rfl⟩|⟨_,rfl⟩;exact dP.one fI;exact fun r hr=>absurd hr (by simp))
    have ne8:rows'++ex≠[]:=by rcases lex with ⟨z,rfl⟩|⟨z,rfl⟩ <;> simp [z]
    have len8:(rows'++ex).length<=8 * 2 ^ j-1:=by
     rcases lex with ⟨z,rfl⟩|⟨z,rfl⟩
     ·rw [z]
      show 1<=_
      rcases hj3 with rfl|rfl|rfl <;> decide
     ·rw [List.append_nil];exact lr'
    refine⟨wl,l6,rows'++ex,1440 * 2 ^ j-40,rfl,kp8.wl,vA eg8 kp8.wl,eg8,ne8,by rcases hj3 with rfl|rfl|rfl <;> omega,okex,by rcases hj3 with rfl|rfl|rfl <;> decide,fun r rows2 G9 k9 e9 ok9 l9=>?_⟩
    refine⟨kp8.trans k9,r,rows2,e9,?_,?_,_,rfl⟩
    ·have e:2 * (1440 * 2 ^ j-40)+40=1440 * 2 ^ (j+1)-40:=by rcases hj3 with rfl|rfl|rfl <;> decide
     rw [e] at ok9
     exact ok9
    ·rcases hj3 with rfl|rfl|rfl <;> omega
   ·rintro σ G4 ⟨kp4,ls,rows',els,okr,lr',o5',rfl⟩
    have htn:tn.toNat=0\/tn.toNat=1\/tn.toNat=2\/tn.toNat=3:=by omega
    have okr2:dP 11480 rows':=fun r hr=>eQ (okr r hr) (by rcases htn with z|z|z|z <;> rw [z] <;> decide)
    have lr2:rows'.length<=63:=Nat.le_trans lr' (by rcases htn with z|z|z|z <;> rw [z] <;> decide)
    refine hR _ a wl lr ls (1+(i:Int)) rows' o5' o6 o7 o8 G4 kp4.wl els okr2 lr2 fun p6 p7 p8 G5 k5'=>?_
    exact⟨sG.trans (vS g1 nwl (kp4.trans k5')),_,_,_,_,_,_,_,rfl⟩
  ·rintro σ G ⟨sG,o1,o3,o4,o5,o6,o7,o8,rfl⟩
   refine .inl ⟨tF,rfl,ok3,fun ps a' b' c' ls r G1 g1 hT _ _ hAt=>?_,fun G1 g1 no=>absurd tx3 (no _ _ _ _ _),fun ps a' b' c' ls G1 g1 hT nw=>?_,fun ps a' b' c' ls G1 g1 hT _ nb=>?_⟩
   ·obtain⟨rfl,rfl,rfl,rfl,rfl⟩:=tx3.fn hT
    refine⟨by show 0<=sizeLine;omega,fun t1 h1'=>?_⟩
    obtain⟨G2,hg2,g2,eg2⟩:=Ls.alo h1' (.tup [])
    rw [hg2]
    refine⟨by show 0<=sizeLine;omega,fun t2 h2'=>?_⟩
    obtain⟨G3,hg3,g3,eg3⟩:=Ls.alo h2' (.tup [])
    rw [hg3]
    refine⟨by show 5<=sizeLine;decide,fun t3 h3'=>?_⟩
    obtain⟨G4,hg4,g4,eg4⟩:=Ls.alo h3' (.tup [.ref t1,.int 1,.int 1,.int 1,.ref t2])
    rw [hg4]
    have gd:=(gd_tx (ps:=[]) (a:=1) (b:=1) (c:=1) (ls:=[]) fun l hl=>absurd hl (by simp)).shaped (by decide)
    refine⟨txD [] 1 1 1 [],txD [] 1 1 1 [],yP (hAt.same (g2.trans (g3.trans g4))),.tup (SqT.of eg4) (.cons (.tup (SqT.of (g4 _ _ (g3 _ _ eg2))) .nil) (.cons (.int _) (.cons (.int _) (.cons (.int _) (.cons (.tup (SqT.of (g4 _ _ eg3)) .nil) .nil))))),gd,gd,?_⟩
    rw [AaO]
    exact q _
   ·obtain⟨rfl,_⟩:=tx3.fn hT
    exact absurd wk3 nw
   ·obtain⟨_,rfl,rfl,rfl,_⟩:=tx3.fn hT
    exact absurd bd3 nb
end
def Df (K:Frag) (x:Str) (st:Stmt) (f:Addr):Prop:=nsIn K mainGlobals x=some (some (.ref f))/\∃fd,Fun K x x st f fd
def sL (K:Frag) (cs ds:List Addr):Bool:=cs.all fun c=>ds.all fun d=>kitOne K (.ref c) (.ref d) == some false
section
variable {K:Frag} {C f c T:Addr} {x q:Str} {st:Stmt} {oc:Value} {od an:Option Addr} {osl:Array (Option Value)} {kV doc pm cdv ct:Value} {fd:FuncData}
theorem Df.mk (a:nsIn K mainGlobals x=some (some (.ref f))) (l:K.lookup f=some ⟨oc,od,.func (fnOf x x (eZ st) (dA st) (aM st) .none kV doc pm an cdv ct),osl⟩) (h:codeIn K cdv x=true) (k:keepIn K (.ref f)=true):Df K x st f:=⟨a,_,AaH l h k⟩
theorem no_of {cs ds:List Addr} (h:sL K cs ds=true) {c d:Addr} (hc:c ∈ cs) (hd:d ∈ ds):kitOne K (.ref c) (.ref d)=some false:=by
 unfold sL at h
 rw [List.all_eq_true] at h
 have h:=h c hc
 rw [List.all_eq_true] at h
 exact eq_of_beq (h d hd)
theorem lcU {α:Type} {n:Nat}:∀{l:List α},l.length=n+1->∃u t,l=u::t/\t.length=n:=fun {l} h=>by
 cases l with
 | nil=>cases h
 | cons u t=>exact⟨u,t,rfl,Nat.succ.inj h⟩
theorem eE {x0:Str} (F:Fun K x q st f fd) (h:∀(kV doc pm:Value) (an:Option Addr) (cdv ct:Value) (u0:Value),bindArgs (fnOf x q (eZ st) (dA st) (aM st) .none kV doc pm an cdv ct) ⟨[u0],[]⟩=pure ([(x0,u0)])):bV K fd [x0] []:=F.binds fun _ _ _ _ _ _ r0 h0=>by
 obtain⟨u0,r1,rfl,h1⟩:=lcU h0
 obtain rfl:=List.eq_nil_of_length_eq_zero h1
 exact h _ _ _ _ _ _ _
theorem bnd2 {x0 x1:Str} (F:Fun K x q st f fd) (h:∀(kV doc pm:Value) (an:Option Addr) (cdv ct:Value) (u0 u1:Value),bindArgs (fnOf x q (eZ st) (dA st) (aM st) .none kV doc pm an cdv ct) ⟨[u0,u1],[]⟩=pure ([(x0,u0),(x1,u1)])):bV K fd [x0,x1] []:=F.binds fun _ _ _ _ _ _ r0 h0=>by
 obtain⟨u0,r1,rfl,h1⟩:=lcU h0
 obtain⟨u1,r2,rfl,h2⟩:=lcU h1
 obtain rfl:=List.eq_nil_of_length_eq_zero h2
 exact h _ _ _ _ _ _ _ _
theorem bnd3 {x0 x1 x2:Str} (F:Fun K x q st f fd) (h:∀(kV doc pm:Value) (an:Option Addr) (cdv ct:Value) (u0 u1 u2:Value),bindArgs (fnOf x q (eZ st) (dA st) (aM st) .none kV doc pm an cdv ct) ⟨[u0,u1,u2],[]⟩=pure ([(x0,u0),(x1,u1),(x2,u2)])):bV K fd [x0,x1,x2] []:=F.binds fun _ _ _ _ _ _ r0 h0=>by
 obtain⟨u0,r1,rfl,h1⟩:=lcU h0
 obtain⟨u1,r2,rfl,h2⟩:=lcU h1
 obtain⟨u2,r3,rfl,h3⟩:=lcU h2
 obtain rfl:=List.eq_nil_of_length_eq_zero h3
 exact h _ _ _ _ _ _ _ _ _
end
theorem qM {l:List Addr} {i k:Nat} (h:i<l.length) (n:i≠k):l.getD i 0 ∈ l.take k++l.drop (k+1):=by
 rw [List.getD_eq_getElem?_getD,List.getElem?_eq_getElem h]
 refine List.mem_append.mpr ?_
 by_cases z:i<k
 ·exact .inl (List.mem_of_getElem? (i:=i) (by rw [List.getElem?_take,if_pos z,List.getElem?_eq_getElem h];rfl))
 ·refine .inr (List.mem_of_getElem? (i:=i-(k+1)) ?_)
  rw [List.getElem?_drop,show k+1+(i-(k+1))=i by omega,List.getElem?_eq_getElem h]
  rfl
theorem mX {K:Frag} {C:Addr}:kitOne K (.ref C) (.ref C)=some true:=by
 unfold kitOne
 rw [if_pos (by simp)]
theorem all_mk {l:OpenLaw} {w:World} {K:Frag} {h:Heap} {mg:Str->Option Value} {fa:Addr} {f1 f2 f3 f4 f5 f6 f7 f8 f9 f10 f11 f12 f13 f14 f15 f16 f17 f18 f19 f20 f21 f22 f23 f24 f25 f26 f27 f28 f29 f30 f31 f32 f33 f34 f35 f36 CLentError CBadBound CBadCut CBadJoin CBadLine CBadMoment CBadPlace CBadPlan CBadTelling CBadWork CBadWorker CDown CFallen CLost CNoBook CNoLending CNoLine CNoPiece CNoText COtherwise CTwice CPLAIN_WORDS:Addr} (X:K.In h) (G:h.Ns mainGlobals mg) (hfa:mg "law"=some (.ref fa))
  (nLentError:nsIn K mainGlobals "LentError"=some (some (.ref CLentError)))
  (nBadBound:nsIn K mainGlobals "BadBound"=some (some (.ref CBadBound)))
  (nBadCut:nsIn K mainGlobals "BadCut"=some (some (.ref CBadCut)))
  (nBadJoin:nsIn K mainGlobals "BadJoin"=some (some (.ref CBadJoin)))
  (nBadLine:nsIn K mainGlobals "BadLine"=some (some (.ref CBadLine)))
  (nBadMoment:nsIn K mainGlobals "BadMoment"=some (some (.ref CBadMoment)))
  (nBadPlace:nsIn K mainGlobals "BadPlace"=some (some (.ref CBadPlace)))
  (nBadPlan:nsIn K mainGlobals "BadPlan"=some (some (.ref CBadPlan)))
  (nBadTelling:nsIn K mainGlobals "BadTelling"=some (some (.ref CBadTelling)))
  (nBadWork:nsIn K mainGlobals "BadWork"=some (some (.ref CBadWork)))
  (nBadWorker:nsIn K mainGlobals "BadWorker"=some (some (.ref CBadWorker)))
  (nDown:nsIn K mainGlobals "Down"=some (some (.ref CDown)))
  (nFallen:nsIn K mainGlobals "Fallen"=some (some (.ref CFallen)))
  (nLost:nsIn K mainGlobals "Lost"=some (some (.ref CLost)))
  (nNoBook:nsIn K mainGlobals "NoBook"=some (some (.ref CNoBook)))
  (nNoLending:nsIn K mainGlobals "NoLending"=some (some (.ref CNoLending)))
  (nNoLine:nsIn K mainGlobals "NoLine"=some (some (.ref CNoLine)))
  (nNoPiece:nsIn K mainGlobals "NoPiece"=some (some (.ref CNoPiece)))
  (nNoText:nsIn K mainGlobals "NoText"=some (some (.ref CNoText)))
  (nOtherwise:nsIn K mainGlobals "Otherwise"=some (some (.ref COtherwise)))
  (nTwice:nsIn K mainGlobals "Twice"=some (some (.ref CTwice)))
  (nPLAIN_WORDS:nsIn K mainGlobals "PLAIN_WORDS"=some (some (.ref CPLAIN_WORDS)))
  (h1:Df K "is_whole" Ls.sWhole f1)
  (h2:Df K "is_stretch" Ls.sStretch f2)
  (h3:Df K "is_work" Ls.sWork f3)
  (h4:Df K "check_work" Ls.sCheck f4)
  (h5:Df K "check_bounds" qC f5)
  (h6:Df K "is_number" uP f6)
  (h7:Df K "read_number" sNum f7)
  (h8:Df K "read_numbers" sNums f8)
  (h9:Df K "read_words" uH f9)
  (h10:Df K "read_pairs" uL f10)
  (h11:Df K "read_head" uK f11)
  (h12:Df K "read_line" uJ f12)
  (h13:Df K "whole_rows" sRows f13)
  (h14:Df K "read_text" sText f14)
  (h15:Df K "_law_well" sWell f15)
  (h16:Df K "_law_draw" sDraw f16)
  (h17:Df K "_law_far" sFar f17)
  (h18:Df K "_law_free_work" sMake f18)
  (h19:Df K "_law_free_limits" sLims f19)
  (h20:Df K "_law_any_word" sWord f20)
  (h21:Df K "_law_free_line" sFree f21)
  (h22:Df K "_law_head" uQ f22)
  (h23:Df K "_law_line_text" uM f23)
  (h24:Df K "_law_word" Ls.sWord f24)
  (h25:Df K "_law_number" sLNum f25)
  (h26:Df K "_law_head_of" uN f26)
  (h27:Df K "_law_line_of" iZ f27)
  (h28:Df K "_law_is_work" sLIsW f28)
  (h29:Df K "_law_are_limits" uO f29)
  (h30:Df K "_law_read" jX f30)
  (h31:Df K "_law_spoilt_words" sSpW f31)
  (h32:Df K "_law_spoilt_rows" sSpR f32)
  (h33:Df K "_law_some_head" jW f33)
  (h34:Df K "_law_found" uR f34)
  (h35:Df K "_law_is_beyond" qD f35)
  (h36:Df K "law" qB f36)
  (z0:nsIn K mainGlobals "isinstance"=some none)
  (z1:nsIn K mainGlobals "int"=some none)
  (z2:nsIn K mainGlobals "bool"=some none)
  (z3:nsIn K mainGlobals "tuple"=some none)
  (z4:nsIn K mainGlobals "len"=some none)
  (z5:nsIn K mainGlobals "range"=some none)
  (z6:nsIn K mainGlobals "list"=some none)
  (z7:nsIn K mainGlobals "max"=some none)
  (z8:nsIn K mainGlobals "sum"=some none)
  (z9:nsIn K mainGlobals "all"=some none)
  (z10:nsIn K mainGlobals "enumerate"=some none)
  (z11:nsIn K mainGlobals "min"=some none)
  (z12:nsIn K mainGlobals "str"=some none)
  (z13:nsIn K mainGlobals "zip"=some none)
  (z14:nsIn K mainGlobals "ValueError"=some none)
  (eNoText:nK K CNoText)
  (eBadWork:nK K CBadWork)
  (eBadBound:nK K CBadBound)
  (hitNoTextLentError:exmOne K (.ref CNoText) (.ref CLentError)=some true)
  (hitBadWorkLentError:exmOne K (.ref CBadWork) (.ref CLentError)=some true)
  (hitBadBoundLentError:exmOne K (.ref CBadBound) (.ref CLentError)=some true)
  (no0:sL K [CNoText] [CBadBound,CBadCut,CBadJoin,CBadLine,CBadMoment,CBadPlace,CBadPlan,CBadTelling,CBadWork,CBadWorker,CDown,CFallen,CLost,CNoBook,CNoLending,CNoLine,CNoPiece,COtherwise,CTwice]=true)
  (no1:sL K [CBadWork] [CBadBound,CBadCut,CBadJoin,CBadLine,CBadMoment,CBadPlace,CBadPlan,CBadTelling,CBadWorker,CDown,CFallen,CLost,CNoBook,CNoLending,CNoLine,CNoPiece,CNoText,COtherwise,CTwice]=true)
  (no2:sL K [CBadBound] [CBadCut,CBadJoin,CBadLine,CBadMoment,CBadPlace,CBadPlan,CBadTelling,CBadWork,CBadWorker,CDown,CFallen,CLost,CNoBook,CNoLending,CNoLine,CNoPiece,CNoText,COtherwise,CTwice]=true)
  (kv0:kitOne K (.ref CNoText) (.type "ValueError")=some true)
  (kv1:kitOne K (.ref CBadWork) (.type "ValueError")=some true)
  (kv2:kitOne K (.ref CBadBound) (.type "ValueError")=some true)
  (te:PyProof.Rows.KTD.tabLook PyProof.Rows.KTD.flatLooks (fun b=>K.lookup b) CPLAIN_WORDS (plain.map fun p=>(p.1,PyData.int p.2))=true)
  (tq:PyProof.Rows.KTD.hashesOf (fun b=>K.lookup b) CPLAIN_WORDS=(plain.map fun p=>(p.1,PyData.int p.2)).map fun p=>(PySem.strKind l.prog w).hash p.1):
  ∃fd:FuncData,(∀(s:Shared) (v:Value),BindsTo s fd ⟨[v],[]⟩ [("_law_script",v)])/\∀base:Heap,K.In base->base.Ns mainGlobals mg->aY l.prog w K mg base CX0 8 fa fd ["_law_script"] (vN K):=by
 have e:=hfa.symm.trans (mg_of X G h36.1)
 cases e
 have B:Gb mg:=⟨mg_none_of X G z12,mg_none_of X G z4,mg_none_of X G z1,mg_none_of X G z5,mg_none_of X G z3,mg_none_of X G z0,mg_none_of X G z2,mg_none_of X G z7,mg_none_of X G z11,mg_none_of X G z8,mg_none_of X G z6,mg_none_of X G z10,mg_none_of X G z9⟩
 obtain⟨M1,_,F1⟩:=h1
 have M1:=mg_of X G M1
 have k1:=F1.kp
 have b1:=eE (x0:="thing") F1 fun _ _ _ _ _ _ _=>rfl
 obtain⟨M2,_,F2⟩:=h2
 have M2:=mg_of X G M2
 have k2:=F2.kp
 have b2:=eE (x0:="thing") F2 fun _ _ _ _ _ _ _=>rfl
 obtain⟨M3,_,F3⟩:=h3
 have M3:=mg_of X G M3
 have k3:=F3.kp
 have b3:=eE (x0:="thing") F3 fun _ _ _ _ _ _ _=>rfl
 obtain⟨M4,_,F4⟩:=h4
 have M4:=mg_of X G M4
 have k4:=F4.kp
 have b4:=eE (x0:="work") F4 fun _ _ _ _ _ _ _=>rfl
 obtain⟨M5,_,F5⟩:=h5
 have M5:=mg_of X G M5
 have k5:=F5.kp
 have b5:=bnd3 (x0:="span") (x1:="every") (x2:="least") F5 fun _ _ _ _ _ _ _ _ _=>rfl
 obtain⟨M6,_,F6⟩:=h6
 have M6:=mg_of X G M6
 have k6:=F6.kp
 have b6:=eE (x0:="word") F6 fun _ _ _ _ _ _ _=>rfl
 obtain⟨M7,_,F7⟩:=h7
 have M7:=mg_of X G M7
 have k7:=F7.kp
 have b7:=eE (x0:="word") F7 fun _ _ _ _ _ _ _=>rfl
 obtain⟨M8,_,F8⟩:=h8
 have M8:=mg_of X G M8
 have k8:=F8.kp
 have b8:=eE (x0:="words") F8 fun _ _ _ _ _ _ _=>rfl
 obtain⟨M9,_,F9⟩:=h9
 have M9:=mg_of X G M9
 have k9:=F9.kp
 have b9:=eE (x0:="row") F9 fun _ _ _ _ _ _ _=>rfl
 obtain⟨M10,_,F10⟩:=h10
 have M10:=mg_of X G M10
 have k10:=F10.kp
 have b10:=eE (x0:="words") F10 fun _ _ _ _ _ _ _=>rfl
 obtain⟨M11,_,F11⟩:=h11
 have M11:=mg_of X G M11
 have k11:=F11.kp
 have b11:=eE (x0:="row") F11 fun _ _ _ _ _ _ _=>rfl
 obtain⟨M12,_,F12⟩:=h12
 have M12:=mg_of X G M12
 have k12:=F12.kp
 have b12:=eE (x0:="row") F12 fun _ _ _ _ _ _ _=>rfl
 obtain⟨M13,_,F13⟩:=h13
 have M13:=mg_of X G M13
 have k13:=F13.kp
 have b13:=eE (x0:="text") F13 fun _ _ _ _ _ _ _=>rfl
 obtain⟨M14,_,F14⟩:=h14
 have M14:=mg_of X G M14
 have k14:=F14.kp
 have b14:=eE (x0:="text") F14 fun _ _ _ _ _ _ _=>rfl
 obtain⟨M15,_,F15⟩:=h15
 have M15:=mg_of X G M15
 have k15:=F15.kp
 have b15:=bnd2 (x0:="_law_script") (x1:="_law_k") F15 fun _ _ _ _ _ _ _ _=>rfl
 obtain⟨M16,_,F16⟩:=h16
 have M16:=mg_of X G M16
 have k16:=F16.kp
 have b16:=bnd2 (x0:="_law_well_here") (x1:="_law_most") F16 fun _ _ _ _ _ _ _ _=>rfl
 obtain⟨M17,_,F17⟩:=h17
 have M17:=mg_of X G M17
 have k17:=F17.kp
 have b17:=eE (x0:="_law_well_here") F17 fun _ _ _ _ _ _ _=>rfl
 obtain⟨M18,_,F18⟩:=h18
 have M18:=mg_of X G M18
 have k18:=F18.kp
 have b18:=eE (x0:="_law_well_here") F18 fun _ _ _ _ _ _ _=>rfl
 obtain⟨M19,_,F19⟩:=h19
 have M19:=mg_of X G M19
 have k19:=F19.kp
 have b19:=eE (x0:="_law_well_here") F19 fun _ _ _ _ _ _ _=>rfl
 obtain⟨M20,_,F20⟩:=h20
 have M20:=mg_of X G M20
 have k20:=F20.kp
 have b20:=eE (x0:="_law_well_here") F20 fun _ _ _ _ _ _ _=>rfl
 obtain⟨M21,_,F21⟩:=h21
 have M21:=mg_of X G M21
 have k21:=F21.kp
 have b21:=eE (x0:="_law_well_here") F21 fun _ _ _ _ _ _ _=>rfl
 obtain⟨M22,_,F22⟩:=h22
 have M22:=mg_of X G M22
 have k22:=F22.kp
 have b22:=bnd2 (x0:="_law_work") (x1:="_law_limits") F22 fun _ _ _ _ _ _ _ _=>rfl
 obtain⟨M23,_,F23⟩:=h23
 have M23:=mg_of X G M23
 have k23:=F23.kp
 have b23:=eE (x0:="_law_line") F23 fun _ _ _ _ _ _ _=>rfl
 obtain⟨M24,_,F24⟩:=h24
 have M24:=mg_of X G M24
 have k24:=F24.kp
 have b24:=eE (x0:="_law_e") F24 fun _ _ _ _ _ _ _=>rfl
 obtain⟨M25,_,F25⟩:=h25
 have M25:=mg_of X G M25
 have k25:=F25.kp
 have b25:=eE (x0:="_law_word_here") F25 fun _ _ _ _ _ _ _=>rfl
 obtain⟨M26,_,F26⟩:=h26
 have M26:=mg_of X G M26
 have k26:=F26.kp
 have b26:=eE (x0:="_law_row") F26 fun _ _ _ _ _ _ _=>rfl
 obtain⟨M27,_,F27⟩:=h27
 have M27:=mg_of X G M27
 have k27:=F27.kp
 have b27:=eE (x0:="_law_row") F27 fun _ _ _ _ _ _ _=>rfl
 obtain⟨M28,_,F28⟩:=h28
 have M28:=mg_of X G M28
 have k28:=F28.kp
 have b28:=eE (x0:="_law_work") F28 fun _ _ _ _ _ _ _=>rfl
 obtain⟨M29,_,F29⟩:=h29
 have M29:=mg_of X G M29
 have k29:=F29.kp
 have b29:=eE (x0:="_law_limits") F29 fun _ _ _ _ _ _ _=>rfl
 obtain⟨M30,_,F30⟩:=h30
 have M30:=mg_of X G M30
 have k30:=F30.kp
 have b30:=eE (x0:="_law_text") F30 fun _ _ _ _ _ _ _=>rfl
 obtain⟨M31,_,F31⟩:=h31
 have M31:=mg_of X G M31
 have k31:=F31.kp
 have b31:=bnd2 (x0:="_law_well_here") (x1:="_law_words") F31 fun _ _ _ _ _ _ _ _=>rfl
 obtain⟨M32,_,F32⟩:=h32
 have M32:=mg_of X G M32
 have k32:=F32.kp
 have b32:=bnd2 (x0:="_law_well_here") (x1:="_law_rows") F32 fun _ _ _ _ _ _ _ _=>rfl
 obtain⟨M33,_,F33⟩:=h33
 have M33:=mg_of X G M33
 have k33:=F33.kp
 have b33:=eE (x0:="_law_well_here") F33 fun _ _ _ _ _ _ _=>rfl
 obtain⟨M34,_,F34⟩:=h34
 have M34:=mg_of X G M34
 have k34:=F34.kp
 have b34:=eE (x0:="_law_text") F34 fun _ _ _ _ _ _ _=>rfl
 obtain⟨M35,_,F35⟩:=h35
 have M35:=mg_of X G M35
 have k35:=F35.kp
 have b35:=eE (x0:="_law_row") F35 fun _ _ _ _ _ _ _=>rfl
 obtain⟨_,_,F36⟩:=h36
 obtain⟨oc,od,kV,doc,pm,an,cdv,ct,osl,rfl,lk,hcd⟩:=F36.ex
 have F36:=AaH lk hcd F36.kp
 refine⟨fnOf "law" "law" (eZ qB) (dA qB) (aM qB) .none kV doc pm an cdv ct,fun s v=>.of_eq rfl,fun base _ _=>?_⟩
 have BS:Ls.Gb mg:=⟨mg_none_of X G z0,mg_none_of X G z1,mg_none_of X G z2,mg_none_of X G z3,mg_none_of X G z4,mg_none_of X G z5,mg_none_of X G z6,mg_none_of X G z7,mg_none_of X G z8,mg_none_of X G z9,mg_none_of X G z10,mg_none_of X G z11⟩
 have TN:Er K mg "NoText" CNoText:=⟨mg_of X G nNoText,eNoText.exc⟩
 have TW:Er K mg "BadWork" CBadWork:=⟨mg_of X G nBadWork,eBadWork.exc⟩
 have TB:Er K mg "BadBound" CBadBound:=⟨mg_of X G nBadBound,eBadBound.exc⟩
 have WN:Ls.Wn mg (fun i=>([CBadBound,CBadCut,CBadJoin,CBadLine,CBadMoment,CBadPlace,CBadPlan,CBadTelling,CBadWork,CBadWorker,CDown,CFallen,CLost,CNoBook,CNoLending,CNoLine,CNoPiece,CNoText,COtherwise,CTwice]:List Addr).getD i 0):=⟨mg_of X G nBadBound,mg_of X G nBadCut,mg_of X G nBadJoin,mg_of X G nBadLine,mg_of X G nBadMoment,mg_of X G nBadPlace,mg_of X G nBadPlan,mg_of X G nBadTelling,mg_of X G nBadWork,mg_of X G nBadWorker,mg_of X G nDown,mg_of X G nFallen,mg_of X G nLost,mg_of X G nNoBook,mg_of X G nNoLending,mg_of X G nNoLine,mg_of X G nNoPiece,mg_of X G nNoText,mg_of X G nOtherwise,mg_of X G nTwice,mg_none_of X G z13,mg_none_of X G z14⟩
 have WNoText:Ls.Wc K (fun i=>([CBadBound,CBadCut,CBadJoin,CBadLine,CBadMoment,CBadPlace,CBadPlan,CBadTelling,CBadWork,CBadWorker,CDown,CFallen,CLost,CNoBook,CNoLending,CNoLine,CNoPiece,CNoText,COtherwise,CTwice]:List Addr).getD i 0) CNoText 17:=⟨eNoText,fun i hi=>by
  by_cases z:i=17
  ·subst z
   exact mX
  ·rw [decide_eq_false z]
   exact no_of (ds:=([CBadBound,CBadCut,CBadJoin,CBadLine,CBadMoment,CBadPlace,CBadPlan,CBadTelling,CBadWork,CBadWorker,CDown,CFallen,CLost,CNoBook,CNoLending,CNoLine,CNoPiece,CNoText,COtherwise,CTwice]:List Addr).take 17++([CBadBound,CBadCut,CBadJoin,CBadLine,CBadMoment,CBadPlace,CBadPlan,CBadTelling,CBadWork,CBadWorker,CDown,CFallen,CLost,CNoBook,CNoLending,CNoLine,CNoPiece,CNoText,COtherwise,CTwice]:List Addr).drop 18) no0 (by simp) (qM hi z),kv0⟩
 have WBadWork:Ls.Wc K (fun i=>([CBadBound,CBadCut,CBadJoin,CBadLine,CBadMoment,CBadPlace,CBadPlan,CBadTelling,CBadWork,CBadWorker,CDown,CFallen,CLost,CNoBook,CNoLending,CNoLine,CNoPiece,CNoText,COtherwise,CTwice]:List Addr).getD i 0) CBadWork 8:=⟨eBadWork,fun i hi=>by
  by_cases z:i=8
  ·subst z
   exact mX
  ·rw [decide_eq_false z]
   exact no_of (ds:=([CBadBound,CBadCut,CBadJoin,CBadLine,CBadMoment,CBadPlace,CBadPlan,CBadTelling,CBadWork,CBadWorker,CDown,CFallen,CLost,CNoBook,CNoLending,CNoLine,CNoPiece,CNoText,COtherwise,CTwice]:List Addr).take 8++([CBadBound,CBadCut,CBadJoin,CBadLine,CBadMoment,CBadPlace,CBadPlan,CBadTelling,CBadWork,CBadWorker,CDown,CFallen,CLost,CNoBook,CNoLending,CNoLine,CNoPiece,CNoText,COtherwise,CTwice]:List Addr).drop 9) no1 (by simp) (qM hi z),kv1⟩
 have WBadBound:Ls.Wc K (fun i=>([CBadBound,CBadCut,CBadJoin,CBadLine,CBadMoment,CBadPlace,CBadPlan,CBadTelling,CBadWork,CBadWorker,CDown,CFallen,CLost,CNoBook,CNoLending,CNoLine,CNoPiece,CNoText,COtherwise,CTwice]:List Addr).getD i 0) CBadBound 0:=⟨eBadBound,fun i hi=>by
  by_cases z:i=0
  ·subst z
   exact mX
  ·rw [decide_eq_false z]
   exact no_of (ds:=([CBadBound,CBadCut,CBadJoin,CBadLine,CBadMoment,CBadPlace,CBadPlan,CBadTelling,CBadWork,CBadWorker,CDown,CFallen,CLost,CNoBook,CNoLending,CNoLine,CNoPiece,CNoText,COtherwise,CTwice]:List Addr).take 0++([CBadBound,CBadCut,CBadJoin,CBadLine,CBadMoment,CBadPlace,CBadPlan,CBadTelling,CBadWork,CBadWorker,CDown,CFallen,CLost,CNoBook,CNoLending,CNoLine,CNoPiece,CNoText,COtherwise,CTwice]:List Addr).drop 1) no2 (by simp) (qM hi z),kv2⟩
 have T:TabK l.prog w K CPLAIN_WORDS plain:=tabK_of te (by decide) tq
 have G1:aY l.prog w K mg base CX0 1 f1 _ ["thing"] Ls.spWhole:=Ls.ok_whole F1 BS
 have G3:aY l.prog w K mg base CX0 3 f3 _ ["thing"] Ls.spWork:=Ls.ok_work F3 BS F1 b1 M1 F2 b2 M2
 have G4:aY l.prog w K mg base (CXE l.prog w) 4 f4 _ ["work"] (pT CBadWork):=zR F4 TW G3 k3 b3 M3
 have G5:aY l.prog w K mg base (CXE l.prog w) 2 f5 _ ["span","every","least"] (lV CBadBound):=xJ F5 TB G1 k1 b1 M1
 have G6:aY l.prog w K mg base CX0 1 f6 _ ["word"] pS:=zO F6 B
 have G7:aY l.prog w K mg base (CXE l.prog w) 2 f7 _ ["word"] (vM CNoText):=ok_num F7 B TN G6 k6 b6 M6
 have G8:aY l.prog w K mg base (CXE l.prog w) 3 f8 _ ["words"] (lS CNoText):=ok_nums F8 B G7 k7 b7 M7
 have G9:aY l.prog w K mg base (CXE l.prog w) 1 f9 _ ["row"] (kZ CNoText):=zF F9 B TN
 have G10:aY l.prog w K mg base (CXE l.prog w) 4 f10 _ ["words"] (pO CNoText):=zJ F10 B TN G8 k8 b8 M8
 have G11:aY l.prog w K mg base (CXE l.prog w) 5 f11 _ ["row"] (pN CNoText):=zI F11 B TN (G9.mono (by decide)) k9 b9 M9 G10 k10 b10 M10 (G8.mono (by decide)) k8 b8 M8
 have G12:aY l.prog w K mg base (CXE l.prog w) 5 f12 _ ["row"] (pM CNoText):=zH F12 B TN T (mg_of X G nPLAIN_WORDS) (G9.mono (by decide)) k9 b9 M9 (G7.mono (by decide)) k7 b7 M7 (G8.mono (by decide)) k8 b8 M8
 have G13:aY l.prog w K mg base CX0 1 f13 _ ["text"] tZ:=ok_rows F13
 have G14:aY l.prog w K mg base (CXE l.prog w) 6 f14 _ ["text"] (fun vs H Q E=>tY CNoText CBadWork CBadBound vs H Q E\/pK CNoText vs H Q E):=ok_text F14 B TN (G13.mono (by decide)) k13 b13 M13 G11 k11 b11 M11 G12 k12 b12 M12 (G4.mono (by decide)) k4 b4 M4 (G5.mono (by decide)) k5 b5 M5
 have G15:aY l.prog w K mg base CX0 1 f15 _ ["_law_script","_law_k"] (tX K):=ok_well F15 B
 have G16:aY l.prog w K mg base CX0 1 f16 _ ["_law_well_here","_law_most"] eD:=ok_draw F16
 have G17:aY l.prog w K mg base CX0 2 f17 _ ["_law_well_here"] spFar:=ok_far F17 G16 k16 b16 M16
 have G18:aY l.prog w K mg base CX0 2 f18 _ ["_law_well_here"] uA:=ok_make F18 B G16 k16 b16 M16
 have G19:aY l.prog w K mg base CX0 2 f19 _ ["_law_well_here"] uC:=ok_lims F19 G16 k16 b16 M16
 have G20:aY l.prog w K mg base CX0 2 f20 _ ["_law_well_here"] spWord:=ok_word F20 B G16 k16 b16 M16
 have G21:aY l.prog w K mg base CX0 3 f21 _ ["_law_well_here"] uD:=ok_free F21 B G16 k16 b16 M16 G17 k17 b17 M17 G20 k20 b20 M20
 have G22:aY l.prog w K mg base CX0 1 f22 _ ["_law_work","_law_limits"] jG:=zP F22 B
 have G23:aY l.prog w K mg base CX0 1 f23 _ ["_law_line"] uB:=zM F23 B
 have G24:nJ l.prog w K mg base 1 f24 _ ["_law_e"] (Ls.spWord K (fun i=>([CBadBound,CBadCut,CBadJoin,CBadLine,CBadMoment,CBadPlace,CBadPlan,CBadTelling,CBadWork,CBadWorker,CDown,CFallen,CLost,CNoBook,CNoLending,CNoLine,CNoPiece,CNoText,COtherwise,CTwice]:List Addr).getD i 0)):=Ls.ok_wrd F24 BS WN
 have G25:aY l.prog w K mg base CX0 1 f25 _ ["_law_word_here"] lU:=ok_lnum F25 B
 have G26:aY l.prog w K mg base CX0 2 f26 _ ["_law_row"] lB:=zN F26 B G25 k25 b25 M25
 have G27:aY l.prog w K mg base CX0 2 f27 _ ["_law_row"] lA:=zL F27 B G25 k25 b25 M25
 have G28:aY l.prog w K mg base CX0 1 f28 _ ["_law_work"] pQ:=ok_lisw F28 B
 have G29:aY l.prog w K mg base CX0 1 f29 _ ["_law_limits"] pP:=ok_llim F29 B
 have G30:aY l.prog w K mg base CX0 3 f30 _ ["_law_text"] gC:=zK F30 B G26 k26 b26 M26 G27 k27 b27 M27 (G28.mono (by decide)) k28 b28 M28 (G29.mono (by decide)) k29 b29 M29
 have G31:aY l.prog w K mg base CX0 3 f31 _ ["_law_well_here","_law_words"] spSpW:=ok_spw F31 B (G16.mono (by decide)) k16 b16 M16 G20 k20 b20 M20
 have G32:aY l.prog w K mg base CX0 4 f32 _ ["_law_well_here","_law_rows"] spSpR:=ok_spr F32 B (G16.mono (by decide)) k16 b16 M16 G31 k31 b31 M31
 have G33:aY l.prog w K mg base CX0 3 f33 _ ["_law_well_here"] pL:=zG F33 G18 k18 b18 M18 G19 k19 b19 M19 (G16.mono (by decide)) k16 b16 M16 (G22.mono (by decide)) k22 b22 M22
 have G34:aY l.prog w K mg base CX0 7 f34 _ ["_law_text"] spFd:=zQ F34 (mg_of X G nLentError) hitNoTextLentError hitBadWorkLentError hitBadBoundLentError WNoText WBadWork WBadBound G14 k14 b14 M14 G24 k24 b24 M24
 have G35:aY l.prog w K mg base CX0 3 f35 _ ["_law_row"] jH:=xK F35 B G26 k26 b26 M26
 exact ok_law F36 B ⟨G16.mono (by decide),k16,b16,M16⟩ ⟨G30.mono (by decide),k30,b30,M30⟩ ⟨G35.mono (by decide),k35,b35,M35⟩ ⟨G34.mono (by decide),k34,b34,M34⟩ ⟨G15.mono (by decide),k15,b15,M15⟩ ⟨G33.mono (by decide),k33,b33,M33⟩ ⟨G23.mono (by decide),k23,b23,M23⟩ ⟨G21.mono (by decide),k21,b21,M21⟩ ⟨G32.mono (by decide),k32,b32,M32⟩
theorem walk {l:OpenLaw} {q:Program} {loose:List Str} {XP:(Str->Option Value)->Heap->Prop} {YP:World->Heap->Prop} {d:DefRec} {K:Params->Frag} (hn:l.most=some 63) (hdf:d.params.defaults=[])
  (hY:∀(w:World) (h:Heap),YP w h->(K w.params).In h)
  (F:∀(w:World) (mg:Str->Option Value) (fa:Addr) (h:Heap),(K w.params).In h->h.Ns mainGlobals mg->mg d.name=some (.ref fa) ->
   ∃fd:FuncData,(∀(s:Shared) (u:Value),BindsTo s fd ⟨[u],[]⟩ [("_law_script",u)])/\∀base:Heap,(K w.params).In base->base.Ns mainGlobals mg->aY l.prog w (K w.params) mg base CX0 8 fa fd ["_law_script"] (vN (K w.params))):
  WalkO q loose XP YP l.row.toRowW d [] (fun f vs=>PySem.call f vs):=
 L2.walk_of (n:=63) (k:=8) (x:="_law_script") (CX:=fun _=>CX0) (sp:=fun w=>vN (K w.params)) hn (by decide) hdf ⟨rfl,by decide,by decide⟩ hY F (fun _ _ a ns hl _ hS=>⟨a,ns,rfl,hS,hl,fun _=>rfl⟩) fun _ _ _ _ _ z=>z
end Lt
theorem PySem.W.Fast.tw17386148086236070562 : True := trivial
theorem PySem.W.Fast.tw13213370647629914481 : True := trivial
theorem PySem.W.Fast.tw13530932035351870799 : True := trivial
theorem PySem.W.Fast.tw4306919450810669149 : True := trivial
theorem PySem.W.Fast.tw16605241226535492523 : True := trivial
theorem PySem.W.Fast.tw16698835296497427347 : True := trivial
theorem PySem.W.Fast.tw4918430408745414395 : True := trivial
theorem PySem.W.Fast.tw11026011846171296711 : True := trivial
theorem PySem.W.Fast.tw9833335601904266447 : True := trivial
theorem PySem.W.Fast.tw8354408135984151870 : True := trivial
theorem PySem.W.Fast.tw12350592067479364620 : True := trivial
theorem PySem.W.Fast.tw7408925191102876885 : True := trivial
theorem PySem.W.Fast.tw4783465418987624846 : True := trivial
theorem PySem.W.Fast.tw1026647649544404854 : True := trivial
theorem PySem.W.Fast.tw5485505191261365051 : True := trivial
theorem PySem.W.Fast.tw17017843457608120320 : True := trivial
theorem PySem.W.Fast.tw873041993208094135 : True := trivial
theorem PySem.W.Fast.tw1888983213032177001 : True := trivial
theorem PySem.W.Fast.tw14057308487545219717 : True := trivial
theorem PySem.W.Fast.tw10790652248789243701 : True := trivial
theorem PySem.W.Fast.tw17593971704936069775 : True := trivial
theorem PySem.W.Fast.tw5232142084820072579 : True := trivial
theorem PySem.W.Fast.tw1720549734469646319 : True := trivial
theorem PySem.W.Fast.tw1942154919127313251 : True := trivial
theorem PySem.W.Fast.tw12352344343841036838 : True := trivial
theorem PySem.W.Fast.tw4659039159550230394 : True := trivial
theorem PySem.W.Fast.tw16235139488597337591 : True := trivial
theorem PySem.W.Fast.tw14643774524418474080 : True := trivial
theorem PySem.W.Fast.tw11151924495754926822 : True := trivial
theorem PySem.W.Fast.tw9834207959103587146 : True := trivial
theorem PySem.W.Fast.tw3600944695925457580 : True := trivial
theorem PySem.W.Fast.tw4316339848244823806 : True := trivial
theorem PySem.W.Fast.tw8075889833953398491 : True := trivial
theorem PySem.W.Fast.tw11435956019947146641 : True := trivial
theorem PySem.W.Fast.tw970550086408336815 : True := trivial
theorem PySem.W.Fast.tw2112113242789006587 : True := trivial
theorem PySem.W.Fast.tw14954158133362872817 : True := trivial
theorem PySem.W.Fast.tw3282808801187171247 : True := trivial
theorem PySem.W.Fast.tw3947847706937957659 : True := trivial
theorem PySem.W.Fast.tw14534690744291709341 : True := trivial
theorem PySem.W.Fast.tw17460664335311138209 : True := trivial
theorem PySem.W.Fast.tw5390778260161688564 : True := trivial
theorem PySem.W.Fast.tw11236704247796677998 : True := trivial
theorem PySem.W.Fast.tw6827007112022292017 : True := trivial
theorem PySem.W.Fast.tw1622837867375259093 : True := trivial
theorem PySem.W.Fast.tw6267128071298994240 : True := trivial
theorem PySem.W.Fast.tw396019567395142666 : True := trivial
theorem PySem.W.Fast.tw6178689361317466768 : True := trivial
theorem PySem.W.Fast.tw12729051557966553786 : True := trivial
theorem PySem.W.Fast.tw6777492762940968318 : True := trivial
theorem PySem.W.Fast.tw984617069784621100 : True := trivial
theorem PySem.W.Fast.tw8474982085442464389 : True := trivial
theorem PySem.W.Fast.tw55020900799710480 : True := trivial
theorem PySem.W.Fast.tw10908777813263517273 : True := trivial
theorem PySem.W.Fast.tw7369434121439438323 : True := trivial
theorem PySem.W.Fast.tw5170700317934674213 : True := trivial
theorem PySem.W.Fast.tw2941143691854765237 : True := trivial
theorem PySem.W.Fast.tw16080235049661493763 : True := trivial
theorem PySem.W.Fast.tw12484749895268862577 : True := trivial
theorem PySem.W.Fast.tw2549120541077726563 : True := trivial
theorem PySem.W.Fast.tw12929200991726563136 : True := trivial
theorem PySem.W.Fast.tw16110452545961145181 : True := trivial
theorem PySem.W.Fast.tw4517275441753082488 : True := trivial
theorem PySem.W.Fast.tw10168927894322059998 : True := trivial
theorem PySem.W.Fast.tw11025041367516240326 : True := trivial
theorem PySem.W.Fast.tw13574354031229059655 : True := trivial
theorem PySem.W.Fast.tw13667336105248888474 : True := trivial
theorem PySem.W.Fast.tw8649467836785244797 : True := trivial
theorem PySem.W.Fast.tw3364157297310193803 : True := trivial
theorem PySem.W.Fast.tw15165883266044491936 : True := trivial
theorem PySem.W.Fast.tw627449408772894453 : True := trivial
theorem PySem.W.Fast.tw17742462772256277249 : True := trivial
theorem PySem.W.Fast.tw7779233598213394523 : True := trivial
theorem PySem.W.Fast.tw11509998964484022427 : True := trivial
theorem PySem.W.Fast.tw5422917394807973155 : True := trivial
theorem PySem.W.Fast.tw13332694188668072591 : True := trivial
theorem PySem.W.Fast.tw15385604912982181350 : True := trivial
theorem PySem.W.Fast.tw11047699480701190866 : True := trivial
theorem PySem.W.Fast.tw14723498153861654298 : True := trivial
theorem PySem.W.Fast.tw14233105032404032068 : True := trivial
theorem PySem.W.Fast.tw2313330832235000950 : True := trivial
theorem PySem.W.Fast.tw6132710954395367075 : True := trivial
theorem PySem.W.Fast.tw11804088275054541423 : True := trivial
theorem PySem.W.Fast.tw18002415140692416246 : True := trivial
theorem PySem.W.Fast.tw2699489885169556930 : True := trivial
theorem PySem.W.Fast.tw1494538695327277124 : True := trivial
theorem PySem.W.Fast.tw4260110089322502089 : True := trivial
theorem PySem.W.Fast.tw9906629736095099754 : True := trivial
theorem PySem.W.Fast.tw17635617351029230400 : True := trivial
theorem PySem.W.Fast.tw1340696340054888201 : True := trivial
theorem PySem.W.Fast.tw14191260977803736310 : True := trivial
theorem PySem.W.Fast.tw12113550632782557386 : True := trivial
theorem PySem.W.Fast.tw3912288272622363875 : True := trivial
theorem PySem.W.Fast.tw12498994907819205864 : True := trivial
theorem PySem.W.Fast.tw9229945737868420121 : True := trivial
theorem PySem.W.Fast.tw14014344949351941852 : True := trivial
theorem PySem.W.Fast.tw11491647075597872252 : True := trivial
theorem PySem.W.Fast.tw15182191257431862533 : True := trivial
theorem PySem.W.Fast.tw15932877317236894594 : True := trivial
theorem PySem.W.Fast.tw15984804369929999150 : True := trivial
theorem PySem.W.Fast.tw1245094085944010440 : True := trivial
theorem PySem.W.Fast.tw11917763702845499820 : True := trivial
theorem PySem.W.Fast.tw6011339632108128867 : True := trivial
theorem PySem.W.Fast.tw17357457961113462622 : True := trivial
theorem PySem.W.Fast.tw18165451124157362044 : True := trivial
theorem PySem.W.Fast.tw4130452936267894436 : True := trivial
theorem PySem.W.Fast.tw5232428496167282797 : True := trivial
theorem PySem.W.Fast.tw4707011874160961539 : True := trivial
theorem PySem.W.Fast.tw11663793952187368450 : True := trivial
theorem PySem.W.Fast.tw7602059430521474196 : True := trivial
theorem PySem.W.Fast.tw2816901015893553262 : True := trivial
theorem PySem.W.Fast.tw17713308129459965678 : True := trivial
theorem PySem.W.Fast.tw2009328135548288661 : True := trivial
theorem PySem.W.Fast.tw13388036713890187631 : True := trivial
theorem PySem.W.Fast.tw10249791698545918664 : True := trivial
theorem PySem.W.Fast.tw9533328671455813588 : True := trivial
theorem PySem.W.Fast.tw7923908543419360414 : True := trivial
theorem PySem.W.Fast.tw1346070271389694941 : True := trivial
theorem PySem.W.Fast.tw7108190698824134093 : True := trivial
theorem PySem.W.Fast.tw17757337808982251984 : True := trivial
theorem PySem.W.Fast.tw11423493526165303027 : True := trivial
theorem PySem.W.Fast.tw8274595537421194128 : True := trivial
theorem PySem.W.Fast.tw3778046859590237500 : True := trivial
theorem PySem.W.Fast.tw12737285448725945410 : True := trivial
theorem PySem.W.Fast.tw16697251400918566790 : True := trivial
theorem PySem.W.Fast.tw2626201961649419600 : True := trivial
theorem PySem.W.Fast.tw4194707218178758739 : True := trivial
theorem PySem.W.Fast.tw16721634267051754893 : True := trivial
theorem PySem.W.Fast.tw10722249742670287875 : True := trivial
theorem PySem.W.Fast.tw3461137219859961455 : True := trivial
theorem PySem.W.Fast.tw11464545339601626363 : True := trivial
theorem PySem.W.Fast.tw15972009427767696139 : True := trivial
theorem PySem.W.Fast.tw6242113707980574522 : True := trivial
theorem PySem.W.Fast.tw2730792582953416002 : True := trivial
theorem PySem.W.Fast.tw13627713934718866324 : True := trivial
theorem PySem.W.Fast.tw13709432351121727936 : True := trivial
theorem PySem.W.Fast.tw6798823150962224129 : True := trivial
theorem PySem.W.Fast.tw13517508374886443011 : True := trivial
theorem PySem.W.Fast.tw5920874787547350036 : True := trivial
theorem PySem.W.Fast.tw18437491222309238462 : True := trivial
theorem PySem.W.Fast.tw5658359576431210056 : True := trivial
theorem PySem.W.Fast.tw9198384348573395061 : True := trivial
theorem PySem.W.Fast.tw6768912646699576945 : True := trivial
theorem PySem.W.Fast.tw649143043069878051 : True := trivial
theorem PySem.W.Fast.tw13179275655631033149 : True := trivial
theorem PySem.W.Fast.tw2861442082770230101 : True := trivial
theorem PySem.W.Fast.tw2333693386401950588 : True := trivial
theorem PySem.W.Fast.tw6536417879972287518 : True := trivial
theorem PySem.W.Fast.tw15725691783511850855 : True := trivial
theorem PySem.W.Fast.tw15051216967861471177 : True := trivial
theorem PySem.W.Fast.tw16938290746166779737 : True := trivial
theorem PySem.W.Fast.tw9746542703294637185 : True := trivial
theorem PySem.W.Fast.tw6590877766228167182 : True := trivial
theorem PySem.W.Fast.tw1149578801274913466 : True := trivial
theorem PySem.W.Fast.tw9429783492711064687 : True := trivial
theorem PySem.W.Fast.tw4922797520048962787 : True := trivial
theorem PySem.W.Fast.tw2295704106799727819 : True := trivial
theorem PySem.W.Fast.tw5671367143253045785 : True := trivial
theorem PySem.W.Fast.tw8703400045856487697 : True := trivial
theorem PySem.W.Fast.tw18278950420920512775 : True := trivial
theorem PySem.W.Fast.tw8932392577240179127 : True := trivial
theorem PySem.W.Fast.tw17801598770714845198 : True := trivial
theorem PySem.W.Fast.tw1415623291035219992 : True := trivial
theorem PySem.W.Fast.tw1323738383248549861 : True := trivial
theorem PySem.W.Fast.tw10613660042901975592 : True := trivial
theorem PySem.W.Fast.tw9247449594986765279 : True := trivial
theorem PySem.W.Fast.tw6513837581909598275 : True := trivial
theorem PySem.W.Fast.tw11727956321144688646 : True := trivial
theorem PySem.W.Fast.tw6227562145692857515 : True := trivial
theorem PySem.W.Fast.tw18345193141598572542 : True := trivial
theorem PySem.W.Fast.tw4828049047889175181 : True := trivial
theorem PySem.W.Fast.tw13612938131059789410 : True := trivial
theorem PySem.W.Fast.tw11890372729345840436 : True := trivial
theorem PySem.W.Fast.tw17843760286213008652 : True := trivial
theorem PySem.W.Fast.tw12193571624612316625 : True := trivial
theorem PySem.W.Fast.tw16832065641873154798 : True := trivial
theorem PySem.W.Fast.tw12472983969398998389 : True := trivial
theorem PySem.W.Fast.tw1025621428330518373 : True := trivial
theorem PySem.W.Fast.tw3853733961468072843 : True := trivial
theorem PySem.W.Fast.tw6689486596161671874 : True := trivial
theorem PySem.W.Fast.tw6825068474137654837 : True := trivial
theorem PySem.W.Fast.tw16383711152100522294 : True := trivial
theorem PySem.W.Fast.tw11270694489814676341 : True := trivial
theorem PySem.W.Fast.tw15628132050530518219 : True := trivial
theorem PySem.W.Fast.tw2053070396469747931 : True := trivial
theorem PySem.W.Fast.tw12279896556979010510 : True := trivial
theorem PySem.W.Fast.tw16527409171883174341 : True := trivial
theorem PySem.W.Fast.tw765306841868138361 : True := trivial
theorem PySem.W.Fast.tw9615750209331431228 : True := trivial
theorem PySem.W.Fast.tw17984949179050553286 : True := trivial
theorem PySem.W.Fast.tw7944565643337435601 : True := trivial
theorem PySem.W.Fast.tw14798667023052018610 : True := trivial
theorem PySem.W.Fast.tw15290000749913269173 : True := trivial
theorem PySem.W.Fast.tw15596340500860255054 : True := trivial
theorem PySem.W.Fast.tw9781146553536899692 : True := trivial
theorem PySem.W.Fast.tw13585983765493486225 : True := trivial
theorem PySem.W.Fast.tw7547861127376874938 : True := trivial
theorem PySem.W.Fast.tw13830976050602413221 : True := trivial
theorem PySem.W.Fast.tw18267078529598533079 : True := trivial
theorem PySem.W.Fast.tw5250333941360594474 : True := trivial
theorem PySem.W.Fast.tw351243697932356438 : True := trivial
theorem PySem.W.Fast.tw13650580316829955702 : True := trivial
theorem PySem.W.Fast.tw4198146779856748507 : True := trivial
theorem PySem.W.Fast.tw5269591514136820486 : True := trivial
theorem PySem.W.Fast.tw15811678888594080603 : True := trivial
theorem PySem.W.Fast.tw4358265615406767164 : True := trivial
theorem PySem.W.Fast.tw9408303569901848974 : True := trivial
theorem PySem.W.Fast.tw4699794664526504174 : True := trivial
theorem PySem.W.Fast.tw5021166526793780544 : True := trivial
theorem PySem.W.Fast.tw17410331160933787003 : True := trivial
theorem PySem.W.Fast.tw14697522596562663405 : True := trivial
theorem PySem.W.Fast.tw13807602324132216985 : True := trivial
theorem PySem.W.Fast.tw12148070265437553749 : True := trivial
theorem PySem.W.Fast.tw16070054557570371985 : True := trivial
theorem PySem.W.Fast.tw13080865402348564796 : True := trivial
theorem PySem.W.Fast.tw2909818796928777296 : True := trivial
theorem PySem.W.Fast.tw13036950474693604208 : True := trivial
theorem PySem.W.Fast.tw17347109673396000991 : True := trivial
theorem PySem.W.Fast.tw3659149375508329516 : True := trivial
theorem PySem.W.Fast.tw16450410685616279797 : True := trivial
theorem PySem.W.Fast.tw9519249461756651568 : True := trivial
theorem PySem.W.Fast.tw8008536495996444106 : True := trivial
theorem PySem.W.Fast.tw12379047322503743875 : True := trivial
theorem PySem.W.Fast.tw6053901230221405 : True := trivial
theorem PySem.W.Fast.tw15477371459525044340 : True := trivial
theorem PySem.W.Fast.tw3684420946287255728 : True := trivial
theorem PySem.W.Fast.tw660704937977884549 : True := trivial
theorem PySem.W.Fast.tw6710797023701239468 : True := trivial
theorem PySem.W.Fast.tw7594165166642209770 : True := trivial
theorem PySem.W.Fast.tw1273166447973206576 : True := trivial
theorem PySem.W.Fast.tw1371740056175048137 : True := trivial
theorem PySem.W.Fast.tw3981366754748352528 : True := trivial
theorem PySem.W.Fast.tw15513739662947746476 : True := trivial
theorem PySem.W.Fast.tw17390397013573757831 : True := trivial
theorem PySem.W.Fast.tw2694214761345000503 : True := trivial
theorem PySem.W.Fast.tw2298240476675675012 : True := trivial
theorem PySem.W.Fast.tw13317897707253405922 : True := trivial
theorem PySem.W.Fast.tw2987214327680394008 : True := trivial
theorem PySem.W.Fast.tw8389538638144012263 : True := trivial
theorem PySem.W.Fast.tw8146577831273376577 : True := trivial
theorem PySem.W.Fast.tw12289183624407779918 : True := trivial
theorem PySem.W.Fast.tw8936874206112608173 : True := trivial
theorem PySem.W.Fast.tw10863031967764215834 : True := trivial
theorem PySem.W.Fast.tw8254477709907368625 : True := trivial
theorem PySem.W.Fast.tw12673907280983250552 : True := trivial
theorem PySem.W.Fast.tw12117857006945231855 : True := trivial
theorem PySem.W.Fast.tw18264396734417789590 : True := trivial
theorem PySem.W.Fast.tw5395789392359236387 : True := trivial
theorem PySem.W.Fast.tw6836721030176991010 : True := trivial
theorem PySem.W.Fast.tw6888216477236176261 : True := trivial
theorem PySem.W.Fast.tw15674199074812470214 : True := trivial
theorem PySem.W.Fast.tw14286396922784621984 : True := trivial
theorem PySem.W.Fast.tw15392109658087050217 : True := trivial
theorem PySem.W.Fast.tw3603954539831771995 : True := trivial
theorem PySem.W.Fast.tw11071434707186367758 : True := trivial
theorem PySem.W.Fast.tw10795758408001437301 : True := trivial
theorem PySem.W.Fast.tw8885926946116356505 : True := trivial
theorem PySem.W.Fast.tw13139640916665277225 : True := trivial
theorem PySem.W.Fast.tw9710198876152218938 : True := trivial
theorem PySem.W.Fast.tw6612849879792279795 : True := trivial
theorem PySem.W.Fast.tw8006349764722020704 : True := trivial
theorem PySem.W.Fast.tw8264395456892795113 : True := trivial
theorem PySem.W.Fast.tw10773361945640087937 : True := trivial
theorem PySem.W.Fast.tw12711394332054408176 : True := trivial
theorem PySem.W.Fast.tw9170185318885295302 : True := trivial
theorem PySem.W.Fast.tw7947775394245313541 : True := trivial
theorem PySem.W.Fast.tw17747349304272332467 : True := trivial
theorem PySem.W.Fast.tw3088979014977593966 : True := trivial
theorem PySem.W.Fast.tw17019651961736588484 : True := trivial
theorem PySem.W.Fast.tw11490237472988924814 : True := trivial
theorem PySem.W.Fast.tw5544852479795640727 : True := trivial
theorem PySem.W.Fast.tw11955784611465389476 : True := trivial
theorem PySem.W.Fast.tw6712979510628123578 : True := trivial
theorem PySem.W.Fast.tw13877051036449184686 : True := trivial
theorem PySem.W.Fast.tw8260886706146666241 : True := trivial
theorem PySem.W.Fast.tw8067443468320586603 : True := trivial
theorem PySem.W.Fast.tw14307883181683866771 : True := trivial
theorem PySem.W.Fast.tw1458113916273678159 : True := trivial
theorem PySem.W.Fast.tw16665020310433759193 : True := trivial
theorem PySem.W.Fast.tw252712120716142988 : True := trivial
theorem PySem.W.Fast.tw10509660631352109 : True := trivial
theorem PySem.W.Fast.tw10341787775450311555 : True := trivial
theorem PySem.W.Fast.tw15415358437277625334 : True := trivial
theorem PySem.W.Fast.tw18138998418873685238 : True := trivial
theorem PySem.W.Fast.tw14521382000381122763 : True := trivial
theorem PySem.W.Fast.tw1429730314712907509 : True := trivial
theorem PySem.W.Fast.tw8823703508533428024 : True := trivial
theorem PySem.W.Fast.tw2519314519170938336 : True := trivial
theorem PySem.W.Fast.tw5691544961138013822 : True := trivial
theorem PySem.W.Fast.tw11653668357745204148 : True := trivial
theorem PySem.W.Fast.tw15343218319523730514 : True := trivial
theorem PySem.W.Fast.tw13824653878002101983 : True := trivial
theorem PySem.W.Fast.tw13113795060728280228 : True := trivial
theorem PySem.W.Fast.tw9877125882487202846 : True := trivial
theorem PySem.W.Fast.tw6495670049689611532 : True := trivial
theorem PySem.W.Fast.tw8111556846100574683 : True := trivial
theorem PySem.W.Fast.tw3875808571555164420 : True := trivial
theorem PySem.W.Fast.tw3311504700093490135 : True := trivial
theorem PySem.W.Fast.tw14397386071398684954 : True := trivial
theorem PySem.W.Fast.tw13253554606160990523 : True := trivial
theorem PySem.W.Fast.tw10615508712081379424 : True := trivial
theorem PySem.W.Fast.tw5867796598490613747 : True := trivial
theorem PySem.W.Fast.tw7068297011715398427 : True := trivial
theorem PySem.W.Fast.tw16877251430592443137 : True := trivial
theorem PySem.W.Fast.tw426168793805881228 : True := trivial
theorem PySem.W.Fast.tw12876070427766070714 : True := trivial
theorem PySem.W.Fast.tw18238569635253903070 : True := trivial
theorem PySem.W.Fast.tw18075045338393836824 : True := trivial
theorem PySem.W.Fast.tw10394453567244157614 : True := trivial
theorem PySem.W.Fast.tw3677847546543196907 : True := trivial
theorem PySem.W.Fast.tw10412933419011195850 : True := trivial
theorem PySem.W.Fast.tw14373173331491582299 : True := trivial
theorem PySem.W.Fast.tw12943510275595242563 : True := trivial
theorem PySem.W.Fast.tw11266456995777403789 : True := trivial
theorem PySem.W.Fast.tw10069647027644132156 : True := trivial
theorem PySem.W.Fast.tw17893716693298907613 : True := trivial
theorem PySem.W.Fast.tw11156953683773627237 : True := trivial
theorem PySem.W.Fast.tw2046055899190128526 : True := trivial
theorem PySem.W.Fast.tw17261712968387775828 : True := trivial
theorem PySem.W.Fast.tw170032276356907075 : True := trivial
theorem PySem.W.Fast.tw11387722043259648564 : True := trivial
theorem PySem.W.Fast.tw18287333691978533976 : True := trivial
theorem PySem.W.Fast.tw1834433848957162311 : True := trivial
theorem PySem.W.Fast.tw12988417647969509206 : True := trivial
theorem PySem.W.Fast.tw5584706206060391804 : True := trivial
theorem PySem.W.Fast.tw4135218635951680643 : True := trivial
theorem PySem.W.Fast.tw16886321463284812197 : True := trivial
theorem PySem.W.Fast.tw829917855139078997 : True := trivial
theorem PySem.W.Fast.tw14107262551480251467 : True := trivial
theorem PySem.W.Fast.tw8742665730134432338 : True := trivial
theorem PySem.W.Fast.tw8597294622570055761 : True := trivial
theorem PySem.W.Fast.tw5782867339247460592 : True := trivial
theorem PySem.W.Fast.tw16749756079056990132 : True := trivial
theorem PySem.W.Fast.tw2954249525353893490 : True := trivial
theorem PySem.W.Fast.tw2615229867543238004 : True := trivial
theorem PySem.W.Fast.tw14137110987863412633 : True := trivial
theorem PySem.W.Fast.tw9533085805856610290 : True := trivial
theorem PySem.W.Fast.tw4678191040329851317 : True := trivial
theorem PySem.W.Fast.tw7660390816356877093 : True := trivial
theorem PySem.W.Fast.tw4919943445581878367 : True := trivial
theorem PySem.W.Fast.tw9900443033417992276 : True := trivial
theorem PySem.W.Fast.tw13719159313902561826 : True := trivial
theorem PySem.W.Fast.tw1462581501497269656 : True := trivial
theorem PySem.W.Fast.tw12534695678226696346 : True := trivial
theorem PySem.W.Fast.tw17504342416060340531 : True := trivial
theorem PySem.W.Fast.tw3198236532375575326 : True := trivial
theorem PySem.W.Fast.tw13643513350753506490 : True := trivial
theorem PySem.W.Fast.tw15325772734847277603 : True := trivial
theorem PySem.W.Fast.tw2494319151512692071 : True := trivial
theorem PySem.W.Fast.tw16415743453189110123 : True := trivial
theorem PySem.W.Fast.tw9425423213955345288 : True := trivial
theorem PySem.W.Fast.tw2799325442351861195 : True := trivial
theorem PySem.W.Fast.tw8713186413081151698 : True := trivial
theorem PySem.W.Fast.tw3187803800035274588 : True := trivial
theorem PySem.W.Fast.tw17619581703443657159 : True := trivial
theorem PySem.W.Fast.tw11823195022375115873 : True := trivial
theorem PySem.W.Fast.tw1425847148668793839 : True := trivial
theorem PySem.W.Fast.tw16745002518478655233 : True := trivial
theorem PySem.W.Fast.tw13199521202716015594 : True := trivial
theorem PySem.W.Fast.tw7118769704458932518 : True := trivial
theorem PySem.W.Fast.tw8154086456388607077 : True := trivial
theorem PySem.W.Fast.tw6773787661476668405 : True := trivial
theorem PySem.W.Fast.tw8024688146357818976 : True := trivial
theorem PySem.W.Fast.tw11750074673631637866 : True := trivial
theorem PySem.W.Fast.tw16698213118466284148 : True := trivial
theorem PySem.W.Fast.tw17047841108462036907 : True := trivial
theorem PySem.W.Fast.tw10590466316585151248 : True := trivial
theorem PySem.W.Fast.tw9336293187937516231 : True := trivial
theorem PySem.W.Fast.tw16189075561069064520 : True := trivial
theorem PySem.W.Fast.tw3666017695583001692 : True := trivial
theorem PySem.W.Fast.tw4254933273641783727 : True := trivial
theorem PySem.W.Fast.tw8026449304810566223 : True := trivial
theorem PySem.W.Fast.tw9294780855988739677 : True := trivial
theorem PySem.W.Fast.tw15037121131829657852 : True := trivial
theorem PySem.W.Fast.tw16652805687372047813 : True := trivial
theorem PySem.W.Fast.tw5010172415704968635 : True := trivial
theorem PySem.W.Fast.tw101681823325063 : True := trivial
theorem PySem.W.Fast.tw7822241909295089156 : True := trivial
theorem PySem.W.Fast.tw10201511507854678253 : True := trivial
theorem PySem.W.Fast.tw4510456455621430786 : True := trivial
theorem PySem.W.Fast.tw2549655016729716664 : True := trivial
theorem PySem.W.Fast.tw2275868241316393861 : True := trivial
theorem PySem.W.Fast.tw4171086324096242937 : True := trivial
theorem PySem.W.Fast.tw1406870274877638905 : True := trivial
theorem PySem.W.Fast.tw16978333242001961444 : True := trivial
theorem PySem.W.Fast.tw7264757003121052621 : True := trivial
theorem PySem.W.Fast.tw11149191986862103083 : True := trivial
theorem PySem.W.Fast.tw6389208152297888656 : True := trivial
theorem PySem.W.Fast.tw9529706891110028840 : True := trivial
theorem PySem.W.Fast.tw7500343132316324559 : True := trivial
theorem PySem.W.Fast.tw15841448757399807752 : True := trivial
theorem PySem.W.Fast.tw4519315107754959882 : True := trivial
theorem PySem.W.Fast.tw6874168676783901190 : True := trivial
theorem PySem.W.Fast.tw18155192877871827253 : True := trivial
theorem PySem.W.Fast.tw13031326938179315053 : True := trivial
theorem PySem.W.Fast.tw16379909698251564176 : True := trivial
theorem PySem.W.Fast.tw15965715413461104598 : True := trivial
theorem PySem.W.Fast.tw2805230800312433472 : True := trivial
theorem PySem.W.Fast.tw11810487979665530193 : True := trivial
theorem PySem.W.Fast.tw4701243135559074030 : True := trivial
theorem PySem.W.Fast.tw17664166973195080873 : True := trivial
theorem PySem.W.Fast.tw7030529134152764586 : True := trivial
theorem PySem.W.Fast.tw9176307732449842831 : True := trivial
theorem PySem.W.Fast.tw16728569312141911800 : True := trivial
theorem PySem.W.Fast.tw10264819901612987208 : True := trivial
theorem PySem.W.Fast.tw1431317593215332916 : True := trivial
theorem PySem.W.Fast.tw2742881710238339335 : True := trivial
theorem PySem.W.Fast.tw13486135680723858845 : True := trivial
theorem PySem.W.Fast.tw3668835747403053898 : True := trivial
theorem PySem.W.Fast.tw17949101910977167251 : True := trivial
theorem PySem.W.Fast.tw7185651178429265540 : True := trivial
theorem PySem.W.Fast.tw4923878802351185968 : True := trivial
theorem PySem.W.Fast.tw8360628001367064707 : True := trivial
theorem PySem.W.Fast.tw18426527585473315196 : True := trivial
theorem PySem.W.Fast.tw13261921468136497715 : True := trivial
theorem PySem.W.Fast.tw390762013125611124 : True := trivial
theorem PySem.W.Fast.tw6790658688068443706 : True := trivial
theorem PySem.W.Fast.tw5491848183786512867 : True := trivial
theorem PySem.W.Fast.tw16643916944096903614 : True := trivial
theorem PySem.W.Fast.tw2876618302427416127 : True := trivial
theorem PySem.W.Fast.tw13685723544810937013 : True := trivial
theorem PySem.W.Fast.tw3038877460593914922 : True := trivial
theorem PySem.W.Fast.tw1718749056436186138 : True := trivial
theorem PySem.W.Fast.tw9491897535238533935 : True := trivial
theorem PySem.W.Fast.tw13639917020666485003 : True := trivial
theorem PySem.W.Fast.tw1180252749855991002 : True := trivial
theorem PySem.W.Fast.tw17260230775053577342 : True := trivial
theorem PySem.W.Fast.tw18001218092978004134 : True := trivial
theorem PySem.W.Fast.tw403955831771983314 : True := trivial
theorem PySem.W.Fast.tw4867082518140073285 : True := trivial
theorem PySem.W.Fast.tw15337956526584558787 : True := trivial
theorem PySem.W.Fast.tw15674814424665895786 : True := trivial
theorem PySem.W.Fast.tw8425483703267080374 : True := trivial
theorem PySem.W.Fast.tw16934897854545468969 : True := trivial
theorem PySem.W.Fast.tw4747516907864660577 : True := trivial
theorem PySem.W.Fast.tw12608858535302110910 : True := trivial
theorem PySem.W.Fast.tw5941113922047574860 : True := trivial
theorem PySem.W.Fast.tw5483307374914862625 : True := trivial
theorem PySem.W.Fast.tw12137049777086463029 : True := trivial
theorem PySem.W.Fast.tw2430928175952691927 : True := trivial
theorem PySem.W.Fast.tw545091345206397650 : True := trivial
theorem PySem.W.Fast.tw16409224980596821575 : True := trivial
theorem PySem.W.Fast.tw17815325830797425455 : True := trivial
theorem PySem.W.Fast.tw4737682072571004168 : True := trivial
theorem PySem.W.Fast.tw12055044515069051363 : True := trivial
theorem PySem.W.Fast.tw6570175200623382353 : True := trivial
theorem PySem.W.Fast.tw13851494865190742731 : True := trivial
theorem PySem.W.Fast.tw8186202062285746399 : True := trivial
theorem PySem.W.Fast.tw16541277990436446831 : True := trivial
theorem PySem.W.Fast.tw4939437985061717236 : True := trivial
theorem PySem.W.Fast.tw8594921410668210688 : True := trivial
theorem PySem.W.Fast.tw18093376410423890459 : True := trivial
theorem PySem.W.Fast.tw3385241985827868844 : True := trivial
theorem PySem.W.Fast.tw7343478117240051525 : True := trivial
theorem PySem.W.Fast.tw5400292057063580923 : True := trivial
theorem PySem.W.Fast.tw4966829609473457997 : True := trivial
theorem PySem.W.Fast.tw14456626615949601576 : True := trivial
theorem PySem.W.Fast.tw2336975724209551865 : True := trivial
theorem PySem.W.Fast.tw10839991743523791155 : True := trivial
theorem PySem.W.Fast.tw6115399192204530717 : True := trivial
theorem PySem.W.Fast.tw10538052545688524598 : True := trivial
theorem PySem.W.Fast.tw14410233082675864245 : True := trivial
theorem PySem.W.Fast.tw4339352202774011502 : True := trivial
theorem PySem.W.Fast.tw7561285653799127690 : True := trivial
theorem PySem.W.Fast.tw18315413445524749035 : True := trivial
theorem PySem.W.Fast.tw6239413652307309885 : True := trivial
theorem PySem.W.Fast.tw10191126608776690381 : True := trivial
theorem PySem.W.Fast.tw12891893016577316456 : True := trivial
theorem PySem.W.Fast.tw8996886524101109130 : True := trivial
theorem PySem.W.Fast.tw13133702313548916405 : True := trivial
theorem PySem.W.Fast.tw15635181991970206476 : True := trivial
theorem PySem.W.Fast.tw2379412201687867957 : True := trivial
theorem PySem.W.Fast.tw6042241725525163037 : True := trivial
theorem PySem.W.Fast.tw6049900698539748611 : True := trivial
theorem PySem.W.Fast.tw5387347361954338170 : True := trivial
theorem PySem.W.Fast.tw1215954042408765049 : True := trivial
theorem PySem.W.Fast.tw6841393651678777903 : True := trivial
theorem PySem.W.Fast.tw14483120492374296283 : True := trivial
theorem PySem.W.Fast.tw11322974522964906570 : True := trivial
theorem PySem.W.Fast.tw13060208186172550562 : True := trivial
theorem PySem.W.Fast.tw6715443554591618915 : True := trivial
theorem PySem.W.Fast.tw3007309181967593615 : True := trivial
theorem PySem.W.Fast.tw9129150531915393268 : True := trivial
theorem PySem.W.Fast.tw6976465496388234444 : True := trivial
theorem PySem.W.Fast.tw16613671582608445788 : True := trivial
theorem PySem.W.Fast.tw12904812783537133236 : True := trivial
theorem PySem.W.Fast.tw13205114766512412638 : True := trivial
theorem PySem.W.Fast.tw16051297462442395262 : True := trivial
theorem PySem.W.Fast.tw3312517359062952276 : True := trivial
theorem PySem.W.Fast.tw14682836783318234169 : True := trivial
theorem PySem.W.Fast.tw6211239564523449265 : True := trivial
theorem PySem.W.Fast.tw14299976088275411895 : True := trivial
theorem PySem.W.Fast.tw3897961216549587735 : True := trivial
theorem PySem.W.Fast.tw2004714739073794387 : True := trivial
theorem PySem.W.Fast.tw5281958118850778242 : True := trivial
theorem PySem.W.Fast.tw13397307126235894585 : True := trivial
theorem PySem.W.Fast.tw13837228696666368599 : True := trivial
theorem PySem.W.Fast.tw15444607330092168311 : True := trivial
theorem PySem.W.Fast.tw1287113138576942959 : True := trivial
theorem PySem.W.Fast.tw8270005330247933343 : True := trivial
theorem PySem.W.Fast.tw15135172804012921618 : True := trivial
theorem PySem.W.Fast.tw18389506157963825697 : True := trivial
theorem PySem.W.Fast.tw5953572359900248790 : True := trivial
theorem PySem.W.Fast.tw14986599524424412601 : True := trivial
theorem PySem.W.Fast.tw13999750561679864740 : True := trivial
theorem PySem.W.Fast.tw11148829665142976354 : True := trivial
theorem PySem.W.Fast.tw633745725376743153 : True := trivial
theorem PySem.W.Fast.tw3131642083199245708 : True := trivial
theorem PySem.W.Fast.tw14942699694584479083 : True := trivial
theorem PySem.W.Fast.tw16823074251556811643 : True := trivial
theorem PySem.W.Fast.tw15568702152045898938 : True := trivial
theorem PySem.W.Fast.tw9378715262239476086 : True := trivial
theorem PySem.W.Fast.tw7776115384265673507 : True := trivial
theorem PySem.W.Fast.tw2434532746701800349 : True := trivial
theorem PySem.W.Fast.tw694680904689482134 : True := trivial
theorem PySem.W.Fast.tw17196681674780243697 : True := trivial
theorem PySem.W.Fast.tw10157677979222203821 : True := trivial
theorem PySem.W.Fast.tw7331680649743588541 : True := trivial
theorem PySem.W.Fast.tw11585038825486981796 : True := trivial
theorem PySem.W.Fast.tw12870692024400149240 : True := trivial
theorem PySem.W.Fast.tw17335287860633470988 : True := trivial
theorem PySem.W.Fast.tw7595351715552395985 : True := trivial
open PySem PySem.W PyProof.Rows
set_option maxRecDepth 100000 in
set_option maxHeartbeats 0 in
theorem PySem.Challenge.cw_lentwork_k36_texts_of_no_book_holds : PySem.Challenge.rw_lentwork_k36_texts_of_no_book.Holds := by
  w_on; o_law; k_head; (case hw => w_witness2)
  k_fill
  refine Lt.walk (l := PySem.Challenge.rw_lentwork_k36_texts_of_no_book) rfl rfl (fun w h Y => PySem.W.kIn_of Y) ?F
  case F =>
    intro w mg fa h KX G hmg
    refine' Lt.all_mk KX G hmg ?_ ?_ ?_ ?_ ?_ ?_ ?_ ?_ ?_ ?_ ?_ ?_ ?_ ?_ ?_ ?_ ?_ ?_ ?_ ?_ ?_ ?_ ?_ ?_ ?_ ?_ ?_ ?_ ?_ ?_ ?_ ?_ ?_ ?_ ?_ ?_ ?_ ?_ ?_ ?_ ?_ ?_ ?_ ?_ ?_ ?_ ?_ ?_ ?_ ?_ ?_ ?_ ?_ ?_ ?_ ?_ ?_ ?_ ?_ ?_ ?_ ?_ ?_ ?_ ?_ ?_ ?_ ?_ ?_ ?_ ?_ ?_ ?_ ?_ ?_ ?_ ?_ ?_ ?_ ?_ ?_ ?_ ?_ ?_ ?_ ?_ ?_
    rotate_left 58
    iterate 22 focus k_is
    iterate 36 focus exact Lt.Df.mk (by k_is) (by k_is) (by k_is) (by k_is)
    iterate 15 focus k_is
    iterate 3 focus (exact ⟨by unfold L2.ExcIs;k_exc,by kernel_rfl,by k_is,by k_is,by k_is,by k_is,by k_is,by k_is,by k_is⟩)
    iterate 11 focus kernel_rfl

