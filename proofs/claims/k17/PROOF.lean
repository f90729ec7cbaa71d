import PyProof.Rows.All
import Wide.All
import OpenK.AllK
import Wide.FinOn
import Lean
import PyProof.EqAt
import PyProof.EqKinds
import PyProof.TupleCall
import PySem.Challenge.RW_lentwork_k17_books_made
set_option Elab.async false
set_option linter.all false
set_option maxRecDepth 100000
namespace L2
open PySem PySem.Spec PyProof.Rows
abbrev Key:=Sum Int Str
def sV:Key→Value→Bool
 | .inl k,v=>Value.isInt k v
 | .inr x,v=>Value.isStrOf x v
def keyH (w:World):Key→Int
 | .inl k=>hashInt k
 | .inr x=>hashStr w x
theorem dL:∀{k:Key} {v:Value},sV k v=true→(∃i t,k=Sum.inl i∧v=Value.int i t)∨(∃x t,k=Sum.inr x∧v=Value.str x t)
 | .inl i,v,h=>by
  obtain⟨t,e⟩:=Value.isInt_shape (k:=i) (v:=v) h
  exact .inl ⟨i,t,rfl,e⟩
 | .inr x,v,h=>by
  obtain⟨t,e⟩:=Value.isStrOf_shape (x:=x) (v:=v) h
  exact .inr ⟨x,t,rfl,e⟩
theorem AaZ (i:Int) (t:Tok):sV (.inl i) (.int i t)=true:=by simp [sV,Value.isInt]
theorem AaY (x:Str) (t:Tok):sV (.inr x) (.str x t)=true:=by simp [sV,Value.isStrOf]
theorem key_ll (a b:Int):decide ((Sum.inl a:Key)=Sum.inl b)=(a == b):=by
 by_cases e:a=b
 ·subst e;simp
 ·have h:¬ (Sum.inl a:Key)=Sum.inl b:=fun q=>e (Sum.inl.inj q)
  rw [decide_eq_false h]
  exact(beq_eq_false_iff_ne.mpr e).symm
theorem key_rr (a b:Str):decide ((Sum.inr a:Key)=Sum.inr b)=decide (a=b):=by
 by_cases e:a=b
 ·subst e;simp
 ·have h:¬ (Sum.inr a:Key)=Sum.inr b:=fun q=>e (Sum.inr.inj q)
  rw [decide_eq_false h,decide_eq_false e]
theorem key_lr (a:Int) (b:Str):decide ((Sum.inl a:Key)=Sum.inr b)=false:=decide_eq_false (fun q=>nomatch q)
theorem key_rl (a:Str) (b:Int):decide ((Sum.inr a:Key)=Sum.inl b)=false:=decide_eq_false (fun q=>nomatch q)
def cV (prog:Program) (w:World):PySem.KeyKind prog w Key where
 is:=sV
 hash:=keyH w
 inj:=fun v a b ha hb=>by
  rcases dL ha with ⟨i,t,rfl,rfl⟩|⟨x,t,rfl,rfl⟩
  ·rcases dL hb with ⟨j,u,rfl,e⟩|⟨y,u,rfl,e⟩
   ·injection e with e1 _;rw [e1]
   ·exact nomatch e
  ·rcases dL hb with ⟨j,u,rfl,e⟩|⟨y,u,rfl,e⟩
   ·exact nomatch e
   ·injection e with e1 _;rw [e1]
 byValue:=fun k v h=>by
  rcases dL h with ⟨i,t,rfl,rfl⟩|⟨x,t,rfl,rfl⟩ <;> rfl
 pyHash:=fun hv h=>by
  rcases dL hv with ⟨i,t,rfl,rfl⟩|⟨x,t,rfl,rfl⟩
  ·exact wpAny_pyHash_int h
  ·exact wpAny_pyHash_str h
 eqBool:=fun hu hv h=>by
  rcases dL hu with ⟨i,t,rfl,rfl⟩|⟨x,t,rfl,rfl⟩
  ·rcases dL hv with ⟨j,u,rfl,rfl⟩|⟨y,u,rfl,rfl⟩
   ·rw [key_ll] at h;exact wpAny_eqBool_int h
   ·rw [key_lr] at h;exact SeqAt.EqAt.int_str i t y u _ _ _ _ h
  ·rcases dL hv with ⟨j,u,rfl,rfl⟩|⟨y,u,rfl,rfl⟩
   ·rw [key_rl] at h;exact SeqAt.EqAt.str_int x t j u _ _ _ _ h
   ·rw [key_rr] at h;exact wpAny_eqBool_str h
 «strs»:=fun k x t v h=>by
  rcases dL h with ⟨i,u,rfl,e⟩|⟨y,u,rfl,e⟩
  ·exact nomatch e
  ·injection e with e1 _
   subst e1
   cases v <;> rfl
theorem vZ (prog:Program) (w:World) (i:Int) (t:Tok):(cV prog w).is (.inl i) (.int i t)=true:=AaZ i t
theorem vY (prog:Program) (w:World) (x:Str) (t:Tok):(cV prog w).is (.inr x) (.str x t)=true:=AaY x t
inductive V where
 | non|bl (b:Bool)|int (i:Int)|str (x:Str)|byt (b:Array UInt8)|flt (b:UInt64)|ref (a:Addr)|ty (n:String)
 deriving DecidableEq
def cH:V→Value→Prop
 | .non,u=>u=Value.none
 | .bl b,u=>u=Value.bool b
 | .int i,u=>∃t,u=Value.int i t
 | .str x,u=>∃t,u=Value.str x t
 | .byt b,u=>∃t,u=Value.bytes b t
 | .flt b,u=>∃t,u=Value.float b t
 | .ref a,u=>u=Value.ref a
 | .ty n,u=>u=Value.type n
abbrev cB:List V→List Value→Prop:=Paired cH
theorem cB.length {xs:List V} {us:List Value} (r:cB xs us):xs.length=us.length:=Paired.length r
theorem cB.get:∀{xs:List V} {us:List Value} {i:Nat} {x:V},cB xs us→xs[i]?=some x→∃u,us[i]?=some u∧cH x u
 | _,_,_,_,.nil,e=>by simp at e
 | _,_,0,_,.cons r _,e=>by simp at e;subst e;exact⟨_,rfl,r⟩
 | _,_,i+1,x,.cons _ t,e=>by
  obtain⟨u,h1,h2⟩:=cB.get (i:=i) (x:=x) t (by simpa using e)
  exact⟨u,by simpa using h1,h2⟩
theorem cB.set {x:V} {u:Value} (r:cH x u):∀{xs:List V} {us:List Value} (i:Nat),cB xs us→cB (xs.set i x) (us.set i u)
 | _,_,_,.nil=>.nil
 | _,_,0,.cons _ t=>.cons r t
 | _,_,i+1,.cons q t=>.cons q (cB.set r i t)
theorem cB.append:∀{xs ys:List V} {us ws:List Value},cB xs us→cB ys ws→cB (xs++ys) (us++ws)
 | _,_,_,_,.nil,s=>s
 | _,_,_,_,.cons r t,s=>.cons r (cB.append t s)
theorem cB.take:∀{xs:List V} {us:List Value} (n:Nat),cB xs us→cB (xs.take n) (us.take n)
 | _,_,0,_=>.nil
 | _,_,_+1,.nil=>.nil
 | _,_,n+1,.cons r t=>.cons r (cB.take n t)
theorem cB.drop:∀{xs:List V} {us:List Value} (n:Nat),cB xs us→cB (xs.drop n) (us.drop n)
 | _,_,0,r=>r
 | _,_,_+1,.nil=>.nil
 | _,_,n+1,.cons _ t=>cB.drop n t
def iM:Option V→Option Value→Prop
 | some v,some u=>cH v u
 | none,none=>True
 | _,_=>False
def KV {κ:Type}:List (κ × V)→List (κ × Value)→Prop:=Paired fun(p:κ × V) (q:κ × Value)=>p.1=q.1∧cH p.2 q.2
def kV:Key→V
 | .inl i=>.int i
 | .inr x=>.str x
inductive HO where
 | lst (xs:List V)
 | tup (xs:List V)
 | dK (kvs:List (Key × V))|dT (kvs:List (List Key × V))
 | set (S:Int→Bool) (n:Nat)
 | ins (C dx:Addr) (fs:List (Str × V))
 | own (x:Addr)
 | xd (fs:List (Str × V))
 | met (f x:Addr)
 | rng (lo hi:Int)
 | frz (o:Obj) (u:HO)
 | tbl (ps:Array Value)
 | ext (φ:Heap→Prop)
abbrev Hp:=Addr→Option HO
def upd (H:Hp) (a:Addr) (o:HO):Hp:=fun b=>if b=a then some o else H b
theorem aB {H:Hp} {a:Addr} {o:HO}:upd H a o a=some o:=by unfold upd;rw [if_pos rfl]
theorem aC {H:Hp} {a b:Addr} {o:HO} (h:b≠a):upd H a o b=H b:=by unfold upd;rw [if_neg h]
theorem dP {H:Hp} {a:Addr} {o u:HO}:upd (upd H a o) a u=upd H a u:=by
 funext b;unfold upd;split <;> rfl
theorem aW {H:Hp} {a b:Addr} {o u:HO} (h:H a=some o) (h':H b=some u) (d:o≠u):a≠b:=by
 intro e;subst e;rw [h] at h';exact d (Option.some.inj h')
theorem aG {H:Hp} {a b:Addr} {o:HO} (h:H a=some o) (h':H b=none):a≠b:=by
 intro e;subst e;rw [h] at h';cases h'
section
variable (P:Program) (w:World)
def cE (H:Hp) (h:Heap) (a:Addr):HO→Prop
 | .lst xs=>xs.length≤sizeLine∧∃(its:List Value) (n:Nat),cB xs its∧h.get? a=some { cls:=.type "list",data:=.seq its.toArray n }
 | .tup xs=>xs.length≤sizeLine∧∃its:List Value,cB xs its∧IsTup h a its.toArray
 | .dK kvs=>kvs.length≤sizeLine∧(a == sysModules)=false∧∃vs,KV kvs vs∧h.DictOf (cV P w) a vs
 | .dT kvs=>kvs.length≤sizeLine∧(a == sysModules)=false∧∃xs:List (List Key × Addr × Value),
   Paired (fun(p:List Key × V) (q:List Key × Addr × Value)=>p.1=q.1∧H q.2.1=some (.tup (p.1.map kV))∧cH p.2 q.2.2) kvs xs ∧
   ∃o es ep,h.get? a=some o∧o.ExactDict∧o.data=.dict es ep∧es.toList=xs.map (entryOfKey (tupleKind (cV P w)))∧(xs.map (·.1)).Nodup
 | .set S n=>h.SetOf (intKind P w) a S n
 | .ins C dx fs=>H dx=some (.own a)∧fs.length≤1000∧dx≠a∧h.get? a=some (PySem.W.instObj C dx) ∧
   ∃mA,h.Ns1 dx mA∧(∀f,iM (fs.lookup f) (mA f))∧PySem.Within mA (fs.map (·.1))
 | .own _=>∃o,h.get? a=some o
 | .xd fs=>∃mA,h.Ns1 a mA∧∀f,iM (fs.lookup f) (mA f)
 | .rng lo hi=>∃t u v,h.get? a=some { cls:=.type "range",data:=.fields #[.int lo t,.int hi u,.int 1 v] }
 | .frz o u=>h.get? a=some o∧cE H h a u
 | .tbl ps=>h.get? a=some { cls:=.none,data:=.fields ps }
 | .met f x=>h.get? a=some (PySem.W.methodObj (.ref f) (.ref x))
 | .ext φ=>φ h∧(∃o,h.get? a=some o)∧∀h1 h2:Heap,φ h1→(∀o,h1.get? a=some o→h2.get? a=some o)→φ h2
def HOk (H:Hp) (h:Heap):Prop:=∀a o,H a=some o→cE P w H h a o
end
section
variable {P:Program} {w:World} {H H':Hp} {h h':Heap} {a:Addr} {o:HO}
theorem cE.lt (x:cE P w H h a o):a<h.objs.size:=by
 cases o with
 | lst xs=>obtain⟨_,_,_,_,e⟩:=x;exact Heap.lt_size e
 | tup xs=>obtain⟨_,_,_,p⟩:=x;exact p.lt
 | dK kvs=>obtain⟨_,_,_,_,o,_,_,e,_⟩:=x;exact Heap.lt_size e
 | dT kvs=>obtain⟨_,_,_,_,o,_,_,e,_⟩:=x;exact Heap.lt_size e
 | set S n=>obtain⟨o,_,_,_,e,_⟩:=x;exact Heap.lt_size e
 | ins C dx fs=>obtain⟨_,_,_,e,_⟩:=x;exact Heap.lt_size e
 | own y=>obtain⟨_,e⟩:=x;exact Heap.lt_size e
 | xd fs=>obtain⟨_,⟨_,_,_,e,_⟩,_⟩:=x;exact Heap.lt_size e
 | rng lo hi=>obtain⟨_,_,_,e⟩:=x;exact Heap.lt_size e
 | frz ob u=>obtain⟨e,_⟩:=x;exact Heap.lt_size e
 | tbl ps=>exact Heap.lt_size (show h.get? a=some _ from x)
 | met f y=>exact Heap.lt_size (show h.get? a=some _ from x)
 | ext φ=>obtain⟨_,⟨_,e⟩,_⟩:=x;exact Heap.lt_size e
theorem Paired.mapP {α β:Type} {F G:α→β→Prop}:∀{l₁:List α} {l₂:List β},Paired F l₁ l₂→(∀a b,F a b→G a b)→Paired G l₁ l₂
 | _,_,.nil,_=>.nil
 | _,_,.cons r t,f=>.cons (f _ _ r) (Paired.mapP t f)
theorem cE.stay (x:cE P w H h a o) (k:∀b u,(b=a∨H b=some (.own a))→h.get? b=some u→h'.get? b=some u)
  (ho:∀b,H b=some (.own a)→H' b=some (.own a)) (ht:∀b xs,H b=some (.tup xs)→H' b=some (.tup xs)):cE P w H' h' a o:=by
 induction o with
 | lst xs=>obtain⟨z,its,n,r,e⟩:=x;exact⟨z,its,n,r,k _ _ (.inl rfl) e⟩
 | tup xs=>obtain⟨z,its,r,ob,e,c⟩:=x;exact⟨z,its,r,ob,k _ _ (.inl rfl) e,c⟩
 | dK kvs=>obtain⟨z,y,vs,r,ob,es,ep,e,c⟩:=x;exact⟨z,y,vs,r,ob,es,ep,k _ _ (.inl rfl) e,c⟩
 | dT kvs=>
  obtain⟨z,y,xs,r,ob,es,ep,e,c⟩:=x
  exact⟨z,y,xs,Paired.mapP r fun p q z=>⟨z.1,ht _ _ z.2.1,z.2.2⟩,ob,es,ep,k _ _ (.inl rfl) e,c⟩
 | set S n=>obtain⟨ob,es,ep,t,e,c⟩:=x;exact⟨ob,es,ep,t,k _ _ (.inl rfl) e,c⟩
 | ins C dx fs=>
  obtain⟨d,z,ne,e,mA,⟨od,es,ep,e2,c⟩,r⟩:=x
  exact⟨ho _ d,z,ne,k _ _ (.inl rfl) e,mA,⟨od,es,ep,k _ _ (.inr d) e2,c⟩,r⟩
 | own y=>obtain⟨ob,e⟩:=x;exact⟨ob,k _ _ (.inl rfl) e⟩
 | xd fs=>obtain⟨mA,⟨od,es,ep,e,c⟩,r⟩:=x;exact⟨mA,⟨od,es,ep,k _ _ (.inl rfl) e,c⟩,r⟩
 | rng lo hi=>obtain⟨t,u,v,e⟩:=x;exact⟨t,u,v,k _ _ (.inl rfl) e⟩
 | frz ob u ih=>obtain⟨e,q⟩:=x;exact⟨k _ _ (.inl rfl) e,ih q⟩
 | tbl ps=>
  have e:h.get? a=some { cls:=.none,data:=.fields ps }:=x
  show h'.get? a=some { cls:=.none,data:=.fields ps }
  exact k a _ (.inl rfl) e
 | met f y=>
  have e:h.get? a=some (PySem.W.methodObj (.ref f) (.ref y)):=x
  show h'.get? a=some (PySem.W.methodObj (.ref f) (.ref y))
  exact k a _ (.inl rfl) e
 | ext φ=>obtain⟨p,⟨o,e⟩,st⟩:=x;exact⟨st _ _ p fun o q=>k _ _ (.inl rfl) q,⟨o,k _ _ (.inl rfl) e⟩,st⟩
theorem HOk.lt (x:HOk P w H h) (e:H a=some o):a<h.objs.size:=(x a o e).lt
theorem HOk.fresh (x:HOk P w H h) (e:h.objs.size≤a):H a=none:=by
 cases q:H a with
 | none=>rfl
 | some u=>exact absurd (Nat.lt_of_lt_of_le (x.lt q) e) (Nat.lt_irrefl _)
theorem HOk.kept (x:HOk P w H h) (k:∀b u,h.get? b=some u→h'.get? b=some u):HOk P w H h':=fun a o e=>
 (x a o e).stay (fun b u _ q=>k b u q) (fun _ q=>q) fun _ _ q=>q
theorem HOk.laid (x:HOk P w H h) (k:∀b u,h.get? b=some u→h'.get? b=some u) (hp:h.objs.size≤a) (new:cE P w (upd H a o) h' a o):HOk P w (upd H a o) h':=fun b u e=>by
 have hn:=x.fresh hp
 by_cases hb:b=a
 ·subst hb;rw [aB] at e;cases e;exact new
 ·rw [aC hb] at e
  exact(x b u e).stay (fun c v _ q=>k c v q) (fun c q=>by rw [aC (aG q hn)];exact q) fun c xs q=>by rw [aC (aG q hn)];exact q
end
def Rd (H:Hp) (a:Addr) (u:HO):Prop:=H a=some u∨∃o,H a=some (.frz o u)
theorem Rd.ok {P:Program} {w:World} {H:Hp} {h:Heap} {a:Addr} {u:HO} (r:Rd H a u) (x:HOk P w H h):cE P w H h a u:=by
 rcases r with r|⟨o,r⟩
 ·exact x a u r
 ·obtain⟨_,q⟩:=x a _ r
  exact q
def Mut:Option HO→Prop
 | some (.lst _)=>True
 | some (.dK _)=>True
 | some (.dT _)=>True
 | some (.set _ _)=>True
 | some (.ins _ _ _)=>True
 | some (.ext _)=>True
 | _=>False
section
variable {P:Program} {w:World} {H:Hp} {h h':Heap} {x e:Addr} {o':HO}
theorem HOk.write (ok:HOk P w H h) (mu:Mut (H x)) (he:e=x∨H e=some (.own x)) (k:∀b u,b≠e→h.get? b=some u→h'.get? b=some u) (heo:∃u,h'.get? e=some u)
  (new:cE P w (upd H x o') h' x o'):HOk P w (upd H x o') h':=fun b u q=>by
 have nown:∀c y,H c=some (.own y)→c≠x:=fun c y r z=>by subst z;rw [r] at mu;exact mu
 have ntup:∀c xs,H c=some (.tup xs)→c≠x:=fun c xs r z=>by subst z;rw [r] at mu;exact mu
 by_cases hb:b=x
 ·subst hb;rw [aB] at q;cases q;exact new
 ·rw [aC hb] at q
  by_cases hbe:b=e
  ·have q':H b=some (.own x):=by
    rcases he with z|z
    ·exact absurd (hbe.trans z) hb
    ·rw [hbe];exact z
   rw [q] at q';cases q'
   obtain⟨v,hv⟩:=heo
   exact⟨v,by rw [hbe];exact hv⟩
  ·refine(ok b u q).stay (fun c v hc r=>k c v ?_ r) (fun c r=>by rw [aC (nown c b r)];exact r) fun c xs r=>by rw [aC (ntup c xs r)];exact r
   rcases hc with rfl|hc
   ·exact hbe
   ·rintro rfl
    rcases he with z|z
    ·exact nown c b hc z
    ·rw [hc] at z;cases z;exact hb rfl
end
structure Un (fs ex:List Addr) (H H':Hp) (h h':Heap):Prop where
 keep:∀b o,h.get? b=some o→H b=none→b ∉ fs→b ∉ ex→h'.get? b=some o
 slot:∀b o,h.get? b=some o→H b=none→b ∈ fs→b ∉ ex→∃sl,h'.get? b=some { o with slots:=sl }
 free:∀b o,h.get? b=some o→H b=none→b ∉ ex→H' b=none
 there:∀b o,h.get? b=some o→b ∉ ex→∃o',h'.get? b=some o'
 tups:∀b xs,H b=some (.tup xs)→H' b=some (.tup xs)
 frzs:∀b o u,H b=some (.frz o u)→H' b=some (.frz o u)
 tbls:∀b ps,H b=some (.tbl ps)→∃more,H' b=some (.tbl (ps++more))
section
variable {fs fs' ex ex':List Addr} {H H1 H2:Hp} {h h1 h2 h':Heap} {a x e:Addr} {o:HO}
theorem Un.any (u:Un fs ex H H1 h h1) {b:Addr} {ob:Obj} (q:h.get? b=some ob) (n:H b=none) (hx:b ∉ ex):∃sl,h1.get? b=some { ob with slots:=sl }:=by
 by_cases hb:b ∈ fs
 ·exact u.slot b ob q n hb hx
 ·exact⟨ob.slots,u.keep b ob q n hb hx⟩
theorem Un.kept (k:∀b u,h.get? b=some u→h'.get? b=some u):Un fs ex H H h h':=
 ⟨fun b ob q _ _ _=>k b ob q,fun b ob q _ _ _=>⟨ob.slots,k b ob q⟩,fun _ _ _ n _=>n,fun b ob q _=>⟨ob,k b ob q⟩,fun _ _ q=>q,fun _ _ _ q=>q,fun _ ps q=>⟨#[],by rw [q];simp⟩⟩
theorem Un.refl:Un fs ex H H h h:=Un.kept fun _ _ q=>q
theorem Un.laid (k:∀b u,h.get? b=some u→h'.get? b=some u) (hp:h.objs.size≤a) (hn:H a=none):Un fs ex H (upd H a o) h h' where
 keep:=fun b u q _ _ _=>k b u q
 slot:=fun b u q _ _ _=>⟨u.slots,k b u q⟩
 free:=fun b u q n _=>by rw [aC (Nat.ne_of_lt (Nat.lt_of_lt_of_le (Heap.lt_size q) hp))];exact n
 there:=fun b u q _=>⟨u,k b u q⟩
 tups:=fun b xs q=>by rw [aC (aG q hn)];exact q
 frzs:=fun b u xs q=>by rw [aC (aG q hn)];exact q
 tbls:=fun b ps q=>⟨#[],by rw [aC (aG q hn),q];simp⟩
theorem Un.write (mu:Mut (H x)) (he:e=x∨H e=some (.own x)) (k:∀b u,b≠e→h.get? b=some u→h'.get? b=some u) (heo:∃u,h'.get? e=some u):Un fs ex H (upd H x o) h h':=by
 have hx:∀b,H b=none→b≠x:=fun b n z=>by subst z;rw [n] at mu;exact mu
 have hb:∀b,H b=none→b≠e:=fun b n z=>by
  subst z
  rcases he with r|r
  ·exact hx b n r
  ·rw [n] at r;cases r
 have hm:∀b u,H b=some u→¬ Mut (some u)→b≠x:=fun b u q nm z=>by subst z;rw [q] at mu;exact nm mu
 refine⟨fun b u q n _ _=>k b u (hb b n) q,fun b u q n _ _=>⟨u.slots,k b u (hb b n) q⟩,fun b u q n _=>by rw [aC (hx b n)];exact n,fun b u q _=>?_,
  fun b xs q=>by rw [aC (hm b _ q fun z=>z)];exact q,fun b u xs q=>by rw [aC (hm b _ q fun z=>z)];exact q,fun b ps q=>⟨#[],by rw [aC (hm b _ q fun z=>z),q];simp⟩⟩
 by_cases hbe:b=e
 ·subst hbe;exact heo
 ·exact⟨u,k b u hbe q⟩
end
def trk (h:Heap) (H:Hp):List Addr:=(List.range h.objs.size).filter fun a=>(H a).isSome
def rP (h:Heap) (H:Hp):Heap:=PySem.W.hideAll h (trk h H)
theorem AbB (h:Heap) (H:Hp):(rP h H).objs.size=h.objs.size:=PySem.W.hideAll_size _ _
theorem AdV {h:Heap} {H:Hp} {b:Addr} {o:Obj} (e:h.get? b=some o) (n:H b=none):(rP h H).get? b=some o:=
 PySem.W.hideAll_get _ e fun hm=>by
  have q:(H b).isSome=true:=(List.mem_filter.mp hm).2
  rw [n] at q;simp at q
theorem of_hidT {h:Heap} {H:Hp} {b:Addr} {o:Obj} (e:(rP h H).get? b=some o):h.get? b=some o∧H b=none:=by
 have e':h.get? b=some o:=PySem.W.of_hideAll (trk h H) e
 refine⟨e',?_⟩
 cases q:H b with
 | none=>rfl
 | some x=>
  have hm:b ∈ trk h H:=List.mem_filter.mpr ⟨List.mem_range.mpr (Heap.lt_size e'),by simp [q]⟩
  have z:(rP h H).get? b=none:=PySem.W.hideAll_none (trk h H) hm
  rw [z] at e;cases e
def pF (g h:Heap) (L:Addr):List (Addr × Obj):=(List.range h.objs.size).filterMap fun a=>if a=L∨(g.get? a).isSome=true then none else(h.get? a).map fun o=>(a,o)
theorem iY {g h:Heap} {L a:Addr} {o:Obj} (h1:a≠L) (h2:g.get? a=none) (h3:h.get? a=some o):(a,o) ∈ pF g h L:=
 List.mem_filterMap.mpr ⟨a,List.mem_range.mpr (Heap.lt_size h3),by simp [h1,h2,h3]⟩
theorem qM {g h:Heap} {L:Addr} {p:Addr × Obj} (hp:p ∈ pF g h L):p.1≠L∧g.get? p.1=none∧h.get? p.1=some p.2:=by
 obtain⟨b,_,e⟩:=List.mem_filterMap.mp hp
 split at e
 ·cases e
 ·rename_i hn
  cases q:h.get? b with
  | none=>rw [q] at e;simp at e
  | some u=>
   rw [q] at e
   simp only [Option.map_some,Option.some.injEq] at e
   subst e
   refine⟨fun z=>hn (.inl z),?_,q⟩
   show g.get? b=none
   cases r:g.get? b with
   | none=>rfl
   | some v=>exact(hn (.inr (by simp [r]))).elim
theorem qO {g h:Heap} {L:Addr}:News g L h (pF g h L):=fun p hp=>let ⟨a,b,c⟩:=qM hp;⟨c,a,b⟩
structure Mod (K:PySem.W.Frag) (mg:Str→Option Value) (base:Heap):Prop where
 kin:K.In base
 glob:base.Ns mainGlobals mg
 blt:∃mb,base.Ns builtinsNs mb∧∀x:Str,x≠"__name__"→mb x=bootBuiltins x
 nolimit:base.NoLimit
structure Cx where
 prog:Program
 w:World
 K:PySem.W.Frag
 mg:Str→Option Value
 base:Heap
 A:Around
 N:List Str
 s₀:Shared
 H₀:Hp
 env:Env
 outer:List Env
 stack:List Env
 ex:List Addr
 fn:Str→Bool
 calm:Bool
 pn:List (Addr × Obj)
 xe:Value→Shared→Prop
def frs (l:List Env):List Addr:=l.filterMap (·.frame)
abbrev Cx.fs (X:Cx):List Addr:=frs X.outer
def Vis (sc:Scope) (x:Str):Prop:=sc.names.lookup x=some .local∨sc.names.lookup x=some .cell∨sc.names.lookup x=some .free
def Loc (sc:Scope) (x:Str):Prop:=sc.names.lookup x=some .local∨sc.names.lookup x=some .cell
def Look (env:Env) (h:Heap) (m:Str→Option Value) (x:Str) (u:Value):Prop:=
 (env.kindOf x=some .local∧m x=some u)∨((env.kindOf x=some .cell∨env.kindOf x=some .free)∧∃c,env.cells.lookup x=some c∧h.IsCell c (some u))
structure Cx.Ok (X:Cx):Prop where
 mod:Mod X.K X.mg X.base
 kind:X.env.scope.kind=.function
 glob:X.env.globals=mainGlobals
 blt:X.env.builtins=builtinsNs
 above:X.s₀.heap.objs.size≤X.env.locals
 inj:∀x y c,X.env.cells.lookup x=some c→X.env.cells.lookup y=some c→x=y
 has:∀x,(X.env.kindOf x=some .cell∨X.env.kindOf x=some .free)→∃c,X.env.cells.lookup x=some c
 cab:∀x c,X.fn x=true→X.env.cells.lookup x=some c→X.s₀.heap.objs.size≤c
 hd:X.calm=true→X.A.handled=none
 frames:X.A.frames=some X.stack
 stk:X.stack=X.outer∨(X.stack=X.env::X.outer∧X.env.frame=some X.env.locals)
 exf:∀b ∈ X.ex,b≠X.env.locals∧∀x c,X.env.cells.lookup x=some c→c≠b
 bs:∀b o,X.base.get? b=some o→X.s₀.heap.get? b=some o∧X.H₀ b=none
 bsz:X.base.objs.size≤X.s₀.heap.objs.size
 noex:∀b o,X.base.get? b=some o→b ∉ X.ex
 exfs:∀b ∈ X.ex,b ∉ X.fs
 funs:X.s₀.heap.FunFrames X.base X.outer
 frf:∀b ∈ X.fs,X.H₀ b=none
structure Inv (X:Cx) (pins:List (Addr × Obj)) (σ:List (Option V)) (H:Hp) (s:Shared):Prop where
 ok:X.Ok
 os:s.os=X.s₀.os
 bare:AllBare s.gens
 base:Un X.fs X.ex X.H₀ H X.s₀.heap s.heap
 loc:∃m,s.heap.Ns X.env.locals m∧∀(i:Nat) (x:Str) (v:V),X.N[i]?=some x→σ[i]?=some (some v)→Vis X.env.scope x→∃u,cH v u∧Look X.env s.heap m x u
 cell:∀x c,X.env.cells.lookup x=some c→∃v,s.heap.IsCell c v
 free:H X.env.locals=none
 freeC:∀x c,X.env.cells.lookup x=some c→H c=none
 pin:∀p ∈ X.pn++pins,s.heap.get? p.1=some p.2∧H p.1=none∧p.1≠X.env.locals∧p.1 ∉ X.fs∧∀v,p.2.data≠.cell v
 hok:HOk X.prog X.w H s.heap
 len:σ.length=X.N.length
section
variable {X:Cx} {pins:List (Addr × Obj)} {σ:List (Option V)} {H H':Hp} {s:Shared} {h':Heap}
theorem Cx.Ok.nofr (ok:X.Ok) {b:Addr} {o:Obj} (e:X.base.get? b=some o):b ∉ X.fs:=fun hb=>by
 have:=(ok.funs.mem hb).1
 rw [e] at this;cases this
theorem Inv.bs (I:Inv X pins σ H s):∀b o,X.base.get? b=some o→s.heap.get? b=some o∧H b=none:=fun b o e=>
 ⟨I.base.keep b o (I.ok.bs b o e).1 (I.ok.bs b o e).2 (I.ok.nofr e) (I.ok.noex b o e),I.base.free b o (I.ok.bs b o e).1 (I.ok.bs b o e).2 (I.ok.noex b o e)⟩
theorem Inv.bk (I:Inv X pins σ H s):∀b o,X.base.get? b=some o→s.heap.get? b=some o:=fun b o e=>(I.bs b o e).1
theorem Inv.mod (I:Inv X pins σ H s):Mod X.K X.mg X.base:=I.ok.mod
theorem Inv.kIn (I:Inv X pins σ H s):X.K.In s.heap:=I.ok.mod.kin.keeps I.bk
theorem Inv.fr (I:Inv X pins σ H s):∃m,Fr X.base X.env.locals s.heap m:=
 let ⟨m,hn,_⟩:=I.loc
 ⟨m,hn,I.bk,Nat.le_trans I.ok.bsz I.ok.above⟩
theorem Inv.lt (I:Inv X pins σ H s):X.env.locals<s.heap.objs.size:=let ⟨_,hn,_⟩:=I.loc;hn.lt
theorem Inv.sz (I:Inv X pins σ H s):X.s₀.heap.objs.size≤s.heap.objs.size:=Nat.le_trans I.ok.above (Nat.le_of_lt I.lt)
theorem Inv.nofs (I:Inv X pins σ H s) {a:Addr} (h:s.heap.objs.size≤a):a ∉ X.fs:=fun hb=>by
 obtain⟨_,o,ho,_⟩:=I.ok.funs.mem hb
 exact absurd (Nat.lt_of_lt_of_le (Heap.lt_size ho) (Nat.le_trans I.sz h)) (Nat.lt_irrefl _)
theorem Inv.cne (I:Inv X pins σ H s):∀x c,X.env.cells.lookup x=some c→c≠X.env.locals:=fun x c e z=>by
 obtain⟨v,o,ho,hd⟩:=I.cell x c e
 obtain⟨m,⟨o',es,ep,ho',hd',_⟩,_⟩:=I.loc
 rw [z,ho'] at ho;cases ho;rw [hd'] at hd;cases hd
theorem Inv.funs (I:Inv X pins σ H s):s.heap.FunFrames X.base X.outer:=by
 have all:∀(l:List Env),(∀b ∈ frs l,b ∈ X.fs)→X.s₀.heap.FunFrames X.base l→s.heap.FunFrames X.base l:=by
  intro l
  induction l with
  | nil=>intro _ _;trivial
  | cons env r ih=>
   intro hs hl
   obtain⟨hk,⟨L,o,hf,hn,ho,hd⟩,hr⟩:=hl
   have hL:L ∈ X.fs:=hs L (by unfold frs;rw [List.filterMap_cons,hf];exact List.mem_cons_self)
   obtain⟨sl,e⟩:=I.base.slot L o ho (I.ok.frf L hL) hL fun z=>I.ok.exfs L z hL
   exact⟨hk,⟨L,_,hf,hn,e,hd⟩,ih (fun b hb=>hs b (by unfold frs;rw [List.filterMap_cons,hf];exact List.mem_cons_of_mem _ hb)) hr⟩
 exact all X.outer (fun _ hb=>hb) I.ok.funs
theorem Inv.stack (I:Inv X pins σ H s):s.heap.FunFrames X.base X.stack:=by
 rcases I.ok.stk with e|⟨e,hf⟩
 ·rw [e];exact I.funs
 ·rw [e]
  obtain⟨m,hn,_⟩:=I.loc
  refine .cons (by rw [I.ok.kind];decide) hf hn ?_ I.funs
  exact Heap.get?_none_of_le (Nat.le_trans I.ok.bsz I.ok.above)
theorem Inv.stkSub (I:Inv X pins σ H s):∀b ∈ frs X.stack,b ∈ X.env.locals::X.fs:=fun b hb=>by
 rcases I.ok.stk with e|⟨e,hf⟩
 ·rw [e] at hb;exact List.mem_cons_of_mem _ hb
 ·rw [e] at hb
  unfold frs at hb
  rw [List.filterMap_cons,hf] at hb
  exact hb
theorem Inv.stkFree (I:Inv X pins σ H s):∀b ∈ frs X.stack,H b=none:=fun b hb=>by
 rcases List.mem_cons.mp (I.stkSub b hb) with e|hb
 ·rw [e];exact I.free
 ·obtain⟨_,o,ho,_⟩:=I.ok.funs.mem hb
  exact I.base.free b o ho (I.ok.frf b hb) fun z=>I.ok.exfs b z hb
theorem Inv.step {g':Array GenState} {t':Nat} {d':Drawn} {ch:List Addr} (I:Inv X pins σ H s)
  (hch:∀b ∈ ch,(b ∈ X.ex∨X.s₀.heap.objs.size≤b)∧b≠X.env.locals∧(∀x c,X.env.cells.lookup x=some c→c≠b)∧∀p ∈ X.pn++pins,p.1≠b)
  (keep:∀b o,b≠X.env.locals→b ∉ X.fs→b ∉ ch→s.heap.get? b=some o→H b=none→h'.get? b=some o)
  (slot:∀b o,b≠X.env.locals→b ∈ X.fs→b ∉ ch→s.heap.get? b=some o→H b=none→∃sl,h'.get? b=some { o with slots:=sl }) (free:∀b o,b ∉ ch→s.heap.get? b=some o→H b=none→H' b=none)
  (there:∀b o,b ∉ ch→s.heap.get? b=some o→∃o',h'.get? b=some o')
  (tups:∀b xs,H b=some (.tup xs)→H' b=some (.tup xs)) (frzs:∀b o u,H b=some (.frz o u)→H' b=some (.frz o u)) (tbls:∀b ps,H b=some (.tbl ps)→∃more,H' b=some (.tbl (ps++more)))
  (ns:∀m,s.heap.Ns X.env.locals m→h'.Ns X.env.locals m) (hok:HOk X.prog X.w H' h') (hg:AllBare g'):
  Inv X pins σ H' { s with heap:=h',gens:=g',drawn:=d',toks:=t' }:=by
 have neL:∀b o,X.s₀.heap.get? b=some o→b≠X.env.locals:=fun b o e=>Nat.ne_of_lt (Nat.lt_of_lt_of_le (Heap.lt_size e) I.ok.above)
 have neC:∀b o,X.s₀.heap.get? b=some o→b ∉ X.ex→b ∉ ch:=fun b o e hx hb=>by
  rcases (hch b hb).1 with z|z
  ·exact hx z
  ·exact absurd (Nat.lt_of_lt_of_le (Heap.lt_size e) z) (Nat.lt_irrefl _)
 have cellK:∀x c,X.env.cells.lookup x=some c→∀v,s.heap.IsCell c v→h'.IsCell c v:=fun x c e v ⟨o,ho,hd⟩=>by
  have nch:c ∉ ch:=fun z=>(hch c z).2.2.1 x c e rfl
  by_cases hc:c ∈ X.fs
  ·obtain⟨sl,q⟩:=slot c o (I.cne x c e) hc nch ho (I.freeC x c e)
   exact⟨_,q,hd⟩
  ·exact⟨o,keep c o (I.cne x c e) hc nch ho (I.freeC x c e),hd⟩
 refine⟨I.ok,I.os,hg,⟨fun b o e n hb hx=>?_,fun b o e n hb hx=>?_,fun b o e n hx=>?_,fun b o e hx=>?_,fun b xs e=>tups b xs (I.base.tups b xs e),fun b o xs e=>frzs b o xs (I.base.frzs b o xs e),fun b ps e=>?_⟩,?_,fun x c e=>?_,?_,fun x c e=>?_,fun p hp=>?_,hok,I.len⟩
 ·exact keep b o (neL b o e) hb (neC b o e hx) (I.base.keep b o e n hb hx) (I.base.free b o e n hx)
 ·obtain⟨sl,e1⟩:=I.base.slot b o e n hb hx
  obtain⟨sl',e2⟩:=slot b _ (neL b o e) hb (neC b o e hx) e1 (I.base.free b o e n hx)
  exact⟨sl',e2⟩
 ·obtain⟨o',e1⟩:=I.base.there b o e hx
  exact free b o' (neC b o e hx) e1 (I.base.free b o e n hx)
 ·obtain⟨o',e1⟩:=I.base.there b o e hx
  exact there b o' (neC b o e hx) e1
 ·obtain⟨m1,e1⟩:=I.base.tbls b ps e
  obtain⟨m2,e2⟩:=tbls b _ e1
  exact⟨m1++m2,by rw [e2,Array.append_assoc]⟩
 ·obtain⟨m,hn,hl⟩:=I.loc
  refine⟨m,ns m hn,fun i x v e1 e2 e3=>?_⟩
  obtain⟨u,r,l⟩:=hl i x v e1 e2 e3
  refine⟨u,r,?_⟩
  rcases l with l|⟨k,c,e,z⟩
  ·exact .inl l
  ·exact .inr ⟨k,c,e,cellK x c e _ z⟩
 ·obtain⟨v,z⟩:=I.cell x c e
  exact⟨v,cellK x c e v z⟩
 ·obtain⟨m,⟨o,_,_,ho,_⟩,_⟩:=I.loc
  exact free _ o (fun z=>(hch _ z).2.1 rfl) ho I.free
 ·obtain⟨v,o,ho,hd⟩:=I.cell x c e
  exact free c o (fun z=>(hch c z).2.2.1 x c e rfl) ho (I.freeC x c e)
 ·obtain⟨e,n,ne,nf,d⟩:=I.pin p hp
  have nch:p.1 ∉ ch:=fun z=>(hch p.1 z).2.2.2 p hp rfl
  exact⟨keep p.1 p.2 ne nf nch e n,free p.1 p.2 nch e n,ne,nf,d⟩
theorem Inv.un {t':Nat} (I:Inv X pins σ H s) (u:Un X.fs [] H H' s.heap h') (hok:HOk X.prog X.w H' h'):Inv X pins σ H' { s with heap:=h',toks:=t' }:=by
 obtain⟨m,⟨o,es,ep,ho,r⟩,_⟩:=id I.loc
 obtain⟨sl,hL⟩:=u.any ho I.free (by simp)
 exact I.step (g':=s.gens) (d':=s.drawn) (ch:=[]) (fun _ z=>nomatch z) (fun b o _ hb _ e n=>u.keep b o e n hb (by simp)) (fun b o _ hb _ e n=>u.slot b o e n hb (by simp)) (fun b o _ e n=>u.free b o e n (by simp)) (fun b o _ e=>u.there b o e (by simp)) u.tups u.frzs u.tbls (fun m' hm=>by
  obtain⟨o',es',ep',ho',r'⟩:=hm
  rw [ho] at ho';cases ho'
  exact⟨_,es',ep',hL,r'⟩) hok I.bare
theorem Inv.call {g':Array GenState} {t':Nat} {d':Drawn} {ch:List Addr} (I:Inv X pins σ H s) (u:Un (frs X.stack) ch H H' s.heap h') (hok:HOk X.prog X.w H' h') (hg:AllBare g')
  (hch:∀b ∈ ch,(b ∈ X.ex∨X.s₀.heap.objs.size≤b)∧b≠X.env.locals∧(∀x c,X.env.cells.lookup x=some c→c≠b)∧∀p ∈ X.pn++pins,p.1≠b):
  Inv X pins σ H' { s with heap:=h',gens:=g',drawn:=d',toks:=t' }:=by
 obtain⟨m,⟨o,es,ep,ho,r⟩,_⟩:=id I.loc
 obtain⟨sl,hL⟩:=u.any ho I.free fun z=>(hch _ z).2.1 rfl
 exact I.step (ch:=ch) hch (fun b o hL hb hc e n=>u.keep b o e n (fun z=>(List.mem_cons.mp (I.stkSub b z)).elim hL hb) hc) (fun b o _ _ hc e n=>u.any e n hc) (fun b o hc e n=>u.free b o e n hc) (fun b o hc e=>u.there b o e hc) u.tups u.frzs u.tbls (fun m' hm=>by
  obtain⟨o',es',ep',ho',r'⟩:=hm
  rw [ho] at ho';cases ho'
  exact⟨_,es',ep',hL,r'⟩) hok hg
theorem Inv.turned {t':Nat} {it:Addr} (I:Inv X pins σ H s) (k:∀b o,b≠it→s.heap.get? b=some o→h'.get? b=some o) (hn:H it=none) (hL:it≠X.env.locals)
  (h1:it ∈ X.ex∨X.s₀.heap.objs.size≤it) (h2:∀x c,X.env.cells.lookup x=some c→c≠it) (h3:∀p ∈ X.pn++pins,p.1≠it):Inv X pins σ H { s with heap:=h',toks:=t' }:=by
 have nit:∀b u,H b=some u→b≠it:=fun b u e z=>by rw [z,hn] at e;cases e
 refine I.step (g':=s.gens) (d':=s.drawn) (ch:=[it]) (fun b hb=>?_) (fun b o _ _ hc e _=>k b o (fun z=>hc (by simp [z])) e) (fun b o _ _ hc e _=>⟨o.slots,k b o (fun z=>hc (by simp [z])) e⟩) (fun _ _ _ _ n=>n)
  (fun b o hc e=>⟨o,k b o (fun z=>hc (by simp [z])) e⟩) (fun _ _ e=>e) (fun _ _ _ e=>e) (fun b ps e=>⟨#[],by rw [e];simp⟩) (fun m hm=>?_) (fun b u e=>?_) I.bare
 ·have e:b=it:=by simpa using hb
  subst e
  exact⟨h1,hL,h2,h3⟩
 ·obtain⟨o,es,ep,ho,r⟩:=hm
  exact⟨o,es,ep,k _ o (Ne.symm hL) ho,r⟩
 ·refine(I.hok b u e).stay (fun c v hc q=>k c v ?_ q) (fun _ q=>q) fun _ _ q=>q
  rcases hc with z|z
  ·rw [z];exact nit b u e
  ·exact nit c _ z
theorem Inv.tok (I:Inv X pins σ H s) (t:Nat):Inv X pins σ H { s with toks:=t }:=I.un (h':=s.heap) (t':=t) Un.refl I.hok
theorem Inv.kept {t':Nat} (I:Inv X pins σ H s) (k:∀b u,s.heap.get? b=some u→h'.get? b=some u):Inv X pins σ H { s with heap:=h',toks:=t' }:=I.un (Un.kept k) (I.hok.kept k)
theorem Inv.laid {a:Addr} {o:HO} {t':Nat} (I:Inv X pins σ H s) (k:∀b u,s.heap.get? b=some u→h'.get? b=some u) (hp:s.heap.objs.size≤a) (new:cE X.prog X.w (upd H a o) h' a o):
  Inv X pins σ (upd H a o) { s with heap:=h',toks:=t' }:=I.un (Un.laid k hp (I.hok.fresh hp)) (I.hok.laid k hp new)
theorem Inv.write {x e:Addr} {o:HO} {t':Nat} (I:Inv X pins σ H s) (mu:Mut (H x)) (he:e=x∨H e=some (.own x)) (k:∀b u,b≠e→s.heap.get? b=some u→h'.get? b=some u) (heo:∃u,h'.get? e=some u)
  (new:cE X.prog X.w (upd H x o) h' x o):Inv X pins σ (upd H x o) { s with heap:=h',toks:=t' }:=I.un (Un.write mu he k heo) (I.hok.write mu he k heo new)
theorem Inv.weak {σ':List (Option V)} (I:Inv X pins σ H s) (hl:σ'.length=σ.length) (w:∀(i:Nat) v,σ'[i]?=some (some v)→σ[i]?=some (some v)):Inv X pins σ' H s:=
 ⟨I.ok,I.os,I.bare,I.base,let ⟨m,hn,hl'⟩:=I.loc;⟨m,hn,fun i x v e1 e2 e3=>hl' i x v e1 (w i v e2) e3⟩,I.cell,I.free,I.freeC,I.pin,I.hok,hl.trans I.len⟩
theorem Inv.pins_of {pins':List (Addr × Obj)} (I:Inv X pins σ H s) (h:∀p ∈ pins',s.heap.get? p.1=some p.2∧H p.1=none∧p.1≠X.env.locals∧p.1 ∉ X.fs∧∀v,p.2.data≠.cell v):Inv X pins' σ H s:=
 ⟨I.ok,I.os,I.bare,I.base,I.loc,I.cell,I.free,I.freeC,fun p hp=>(List.mem_append.mp hp).elim (fun z=>I.pin p (List.mem_append_left _ z)) (h p),I.hok,I.len⟩
theorem qN {N:List Str} (hN:N.Nodup) {i j:Nat} {x:Str} (a:N[i]?=some x) (b:N[j]?=some x):i=j:=by
 obtain⟨h1,e1⟩:=List.getElem?_eq_some_iff.mp a
 obtain⟨h2,e2⟩:=List.getElem?_eq_some_iff.mp b
 exact(List.getElem_inj hN).mp (e1.trans e2.symm)
theorem rZ {M:Model} {A:Around} {E:Value→Shared→Prop} {i:Nat} {x:Str} {v:V} {u:Value} {Q:Unit→Shared→Prop} (I:Inv X pins σ H s) (hN:X.N.Nodup) (hi:X.N[i]?=some x) (hx:Loc X.env.scope x) (r:cH v u)
  (h:∀s',Inv X pins (σ.set i (some v)) H s'→(∃a,Heap.SameBut a s.heap s'.heap∧(a=X.env.locals∨X.env.cells.lookup x=some a))→Q () s') (hf:X.fn x=true∨X.env.scope.names.lookup x=some .local:=by first|exact .inl rfl|exact .inr rfl|assumption):wpAny M A (storeName X.env x u) Q E s:=by
 obtain⟨m,hn,hl⟩:=id I.loc
 have hcls:(X.env.scope.kind == .class || (X.env.scope.kind == .module && X.env.locals != X.env.globals))=false:=by rw [I.ok.kind];rfl
 have hiσ:i<σ.length:=by rw [I.len];exact(List.getElem?_eq_some_iff.mp hi).1
 have cne:=I.cne
 have tracked:∀{a:Addr} {h':Heap},(∃o,s.heap.get? a=some o∧H a=none)→Heap.SameBut a s.heap h'→HOk X.prog X.w H h':=fun {a h'} ha hs b ob e=>by
  obtain⟨_,_,hfree⟩:=ha
  refine(I.hok b ob e).stay (fun c w' hc q=>(hs.2 c ?_).trans q) (fun _ q=>q) fun _ _ q=>q
  rintro rfl
  rcases hc with rfl|hc
  ·rw [hfree] at e;cases e
  ·rw [hfree] at hc;cases hc
 rcases hx with hk|hk
 ·refine wpAny_storeName_local hk hn (fun h' hn' hs=>?_) hcls
  obtain⟨oL,_,_,hoL,_⟩:=id hn
  refine h _ ⟨I.ok,I.os,I.bare,⟨fun b o e n hb hx=>?_,fun b o e n hb hx=>?_,I.base.free,fun b o e hx=>?_,I.base.tups,I.base.frzs,I.base.tbls⟩,⟨_,hn',fun j y v' e1 e2 e3=>?_⟩,fun y c e=>?_,I.free,I.freeC,fun p hp=>?_,tracked ⟨oL,hoL,I.free⟩ hs,by simpa using I.len⟩ ⟨_,hs,.inl rfl⟩
  ·exact(hs.2 b (Nat.ne_of_lt (Nat.lt_of_lt_of_le (Heap.lt_size e) I.ok.above))).trans (I.base.keep b o e n hb hx)
  ·obtain⟨sl,e1⟩:=I.base.slot b o e n hb hx
   exact⟨sl,(hs.2 b (Nat.ne_of_lt (Nat.lt_of_lt_of_le (Heap.lt_size e) I.ok.above))).trans e1⟩
  ·obtain⟨o',e1⟩:=I.base.there b o e hx
   exact⟨o',(hs.2 b (Nat.ne_of_lt (Nat.lt_of_lt_of_le (Heap.lt_size e) I.ok.above))).trans e1⟩
  ·by_cases hj:j=i
   ·subst hj
    rw [hi] at e1;cases e1
    rw [List.getElem?_set_self hiσ] at e2
    cases e2
    exact⟨u,r,.inl ⟨hk,by simp⟩⟩
   ·rw [List.getElem?_set_ne (Ne.symm hj)] at e2
    obtain⟨u',r',q⟩:=hl j y v' e1 e2 e3
    refine⟨u',r',?_⟩
    rcases q with ⟨k,e⟩|⟨k,c,e,z⟩
    ·refine .inl ⟨k,?_⟩
     have:y≠x:=fun e=>hj (qN hN e1 (e ▸ hi))
     simp [this,e]
    ·exact .inr ⟨k,c,e,z.sameBut hs (cne y c e)⟩
  ·obtain⟨w',z⟩:=I.cell y c e
   exact⟨w',z.sameBut hs (cne y c e)⟩
  ·obtain⟨e,n,ne,nf,d⟩:=I.pin p hp
   exact⟨(hs.2 p.1 ne).trans e,n,ne,nf,d⟩
 ·have hfn:X.fn x=true:=by
   rcases hf with z|z
   ·exact z
   ·rw [z] at hk;cases hk
  obtain⟨c,hc⟩:=I.ok.has x (.inl hk)
  obtain⟨w',z⟩:=I.cell x c hc
  refine wpAny_storeName_cell I.ok.kind hk hc z (fun h' hc' hs=>?_)
  obtain⟨oc,hoc,hocd⟩:=id z
  refine h { s with heap:=h' } ⟨I.ok,I.os,I.bare,⟨fun b o e n hb hx=>?_,fun b o e n hb hx=>?_,I.base.free,fun b o e hx=>?_,I.base.tups,I.base.frzs,I.base.tbls⟩,⟨m,hn.sameBut hs (Ne.symm (cne x c hc)),fun j y v' e1 e2 e3=>?_⟩,fun y c' e=>?_,I.free,I.freeC,fun p hp=>?_,tracked ⟨oc,hoc,I.freeC x c hc⟩ hs,by simpa using I.len⟩ ⟨c,hs,.inr hc⟩
  ·exact(hs.2 b (Nat.ne_of_lt (Nat.lt_of_lt_of_le (Heap.lt_size e) (I.ok.cab x c hfn hc)))).trans (I.base.keep b o e n hb hx)
  ·obtain⟨sl,e1⟩:=I.base.slot b o e n hb hx
   exact⟨sl,(hs.2 b (Nat.ne_of_lt (Nat.lt_of_lt_of_le (Heap.lt_size e) (I.ok.cab x c hfn hc)))).trans e1⟩
  ·obtain⟨o',e1⟩:=I.base.there b o e hx
   exact⟨o',(hs.2 b (Nat.ne_of_lt (Nat.lt_of_lt_of_le (Heap.lt_size e) (I.ok.cab x c hfn hc)))).trans e1⟩
  ·by_cases hj:j=i
   ·subst hj
    rw [hi] at e1;cases e1
    rw [List.getElem?_set_self hiσ] at e2
    cases e2
    exact⟨u,r,.inr ⟨.inl hk,c,hc,hc'⟩⟩
   ·rw [List.getElem?_set_ne (Ne.symm hj)] at e2
    obtain⟨u',r',q⟩:=hl j y v' e1 e2 e3
    refine⟨u',r',?_⟩
    rcases q with q|⟨k,c',e,z'⟩
    ·exact .inl q
    ·refine .inr ⟨k,c',e,z'.sameBut hs ?_⟩
     rintro rfl
     exact hj (qN hN e1 (I.ok.inj _ _ _ e hc ▸ hi))
  ·by_cases hcc:c'=c
   ·subst hcc;exact⟨_,hc'⟩
   ·obtain⟨w2,z2⟩:=I.cell y c' e
    exact⟨w2,z2.sameBut hs hcc⟩
  ·obtain⟨e,n,ne,nf,d⟩:=I.pin p hp
   refine⟨(hs.2 p.1 ?_).trans e,n,ne,nf,d⟩
   intro q
   rw [q,hoc] at e
   have q':oc=p.2:=Option.some.inj e
   exact d w' (by rw [← q'];exact hocd)
theorem kU {M:Model} {A:Around} {E:Value→Shared→Prop} {i:Nat} {x:Str} {v:V} {u:Value} {Q:Unit→Shared→Prop} (I:Inv X pins σ H s) (hN:X.N.Nodup) (hi:X.N[i]?=some x) (hx:Loc X.env.scope x) (r:cH v u)
  (h:∀s',Inv X pins (σ.set i (some v)) H s'→Q () s') (hf:X.fn x=true∨X.env.scope.names.lookup x=some .local:=by first|exact .inl rfl|exact .inr rfl|assumption):wpAny M A (storeName X.env x u) Q E s:=
 rZ I hN hi hx r (fun s' I' _=>h s' I') hf
theorem Inv.call' {s':Shared} {ch:List Addr} (I:Inv X pins σ H s) (ho:s'.os=s.os) (u:Un (frs X.stack) ch H H' s.heap s'.heap) (hok:HOk X.prog X.w H' s'.heap) (hg:AllBare s'.gens)
  (hch:∀b ∈ ch,(b ∈ X.ex∨X.s₀.heap.objs.size≤b)∧b≠X.env.locals∧(∀x c,X.env.cells.lookup x=some c→c≠b)∧∀p ∈ X.pn++pins,p.1≠b):Inv X pins σ H' s':=by
 obtain⟨h',g',d',t',o'⟩:=s'
 have e:o'=s.os:=ho
 subst e
 exact I.call (g':=g') (t':=t') (d':=d') u hok hg hch
end
abbrev XK:=Value→Option Addr→Hp→Prop
abbrev St:=List (Option V)
abbrev VK:=V→Hp→Prop
abbrev TE:=St→Hp→VK→Prop
abbrev TT:=St→Hp→(Bool→Hp→Prop)→Prop
abbrev TA:=St→Hp→(List V→Hp→Prop)→Prop
structure jT where
 nx:St→Hp→Prop
 rt:VK
 bk:St→Hp→Prop:=fun _ _=>False
 ct:St→Hp→Prop:=fun _ _=>False
abbrev TS:=jT→St→Hp→Prop
def EP (X:Cx) (pins:List (Addr × Obj)) (σ:St) (Q:VK) (u:Value) (s':Shared):Prop:=∃v H',Inv X pins σ H' s'∧cH v u∧Q v H'
def TP (X:Cx) (pins:List (Addr × Obj)) (σ:St) (Q:Bool→Hp→Prop) (b:Bool) (s':Shared):Prop:=∃H',Inv X pins σ H' s'∧Q b H'
def AP (X:Cx) (pins:List (Addr × Obj)) (σ:St) (Q:List V→Hp→Prop) (us:List Value) (s':Shared):Prop:=∃vs H',Inv X pins σ H' s'∧cB vs us∧Q vs H'
def SP (X:Cx) (pins:List (Addr × Obj)) (D:jT) (f:Flow) (s':Shared):Prop:=
 match f with
 | .next=>∃ σ' H',Inv X pins σ' H' s'∧D.nx σ' H'
 | .brk=>∃ σ' H',Inv X pins σ' H' s'∧D.bk σ' H'
 | .cont=>∃ σ' H',Inv X pins σ' H' s'∧D.ct σ' H'
 | .ret u=>∃v σ' H',Inv X pins σ' H' s'∧cH v u∧D.rt v H'
def PE (X:Cx) (e:Expr) (t:TE):Prop:=
 ∀(pins:List (Addr × Obj)) (s:Shared) (σ:St) (H:Hp) (Q:VK),Inv X pins σ H s→t σ H Q→wpAny (model X.prog X.w) X.A (eval e X.env) (EP X pins σ Q) X.xe s
def PT (X:Cx) (e:Expr) (t:TT):Prop:=
 ∀(pins:List (Addr × Obj)) (s:Shared) (σ:St) (H:Hp) (Q:Bool→Hp→Prop),Inv X pins σ H s→t σ H Q→wpAny (model X.prog X.w) X.A (isTrue e X.env (eval e X.env)) (TP X pins σ Q) X.xe s
def PW (X:Cx) (e:Expr) (t:TT):Prop:=
 ∀(whole:Sem Value) (pins:List (Addr × Obj)) (s:Shared) (σ:St) (H:Hp) (Q:Bool→Hp→Prop),Inv X pins σ H s→t σ H Q→wpAny (model X.prog X.w) X.A (isTrue e X.env whole) (TP X pins σ Q) X.xe s
theorem PW.pt {X:Cx} {e:Expr} {t:TT} (h:PW X e t):PT X e t:=h _
def PA (X:Cx) (es:List Expr) (t:TA):Prop:=
 ∀(pos:Pos) (pins:List (Addr × Obj)) (s:Shared) (σ:St) (H:Hp) (Q:List V→Hp→Prop),Inv X pins σ H s→t σ H Q→wpAny (model X.prog X.w) X.A (spliced (backTo pos (starEach es X.env))) (AP X pins σ Q) X.xe s
def PS (X:Cx) (st:Stmt) (t:TS):Prop:=
 ∀(pins:List (Addr × Obj)) (s:Shared) (σ:St) (H:Hp) (D:jT),Inv X pins σ H s→t D σ H→wpAny (model X.prog X.w) X.A (exec st X.env) (SP X pins D) X.xe s
def PSs (X:Cx) (st:List Stmt) (t:TS):Prop:=
 ∀(pins:List (Addr × Obj)) (s:Shared) (σ:St) (H:Hp) (D:jT),Inv X pins σ H s→t D σ H→wpAny (model X.prog X.w) X.A (execs st X.env) (SP X pins D) X.xe s
theorem thn {α:Type} {t:Sem α} {Q Q':α→Shared→Prop} {M:Model} {A:Around} {E:Value→Shared→Prop} {s:Shared} (h:wpAny M A t Q E s) (hQ:∀a s,Q a s→Q' a s):wpAny M A t Q' E s:=wpAny_mono h hQ fun _ _ x=>x
section
variable {X:Cx}
def jR (i:Nat):TE:=fun σ H Q=>∃v,σ[i]?=some (some v)∧Q v H
def tC (v:V):TE:=fun _ H Q=>Q v H
theorem pe_var {i:Nat} {x:Str} {pos:Pos} (hN:X.N[i]?=some x) (hv:Vis X.env.scope x) (hd:(x == ("__debug__":Str))=false:=by decide) (hcd:(x == ("__classdict__":Str))=false:=by decide):PE X (.Name x pos) (jR i):=by
 intro pins s σ H Q I h
 obtain⟨v,e,h⟩:=h
 obtain⟨m,hn,hl⟩:=I.loc
 obtain⟨u,r,l⟩:=hl i x v hN e hv
 have fin:EP X pins σ Q u s:=⟨v,H,I,r,h⟩
 rcases l with ⟨hk,hm⟩|⟨hk,c,hc,hcell⟩
 ·exact wpAny_Name (wpAny_loadName_local I.ok.kind hk hn hm fin) hd
 ·rcases hk with hk|hk
  ·exact wpAny_Name (wpAny_loadName_cell I.ok.kind hk hc hcell fin) hd
  ·exact wpAny_Name (wpAny_loadName_free I.ok.kind hk hc hcell fin hcd) hd
theorem aD {i j pos}:PE X (.Constant (.int i) j pos) (tC (.int i)):=fun _ _ _ H _ I h=>wpAny_Constant_int ⟨.int i,H,I.tok _,⟨_,rfl⟩,h⟩
theorem gN {b j pos}:PE X (.Constant (.bool b) j pos) (tC (.bl b)):=fun _ _ _ H _ I h=>Constant_bool ⟨.bl b,H,I,rfl,h⟩
theorem eZ {j pos}:PE X (.Constant .none j pos) (tC .non):=fun _ _ _ H _ I h=>Constant_none ⟨.non,H,I,rfl,h⟩
theorem eY {x j pos}:PE X (.Constant (.str x) j pos) (tC (.str x)):=fun _ _ _ H _ I h=>Calls.Constant_str ⟨.str x,H,I.tok _,⟨_,rfl⟩,h⟩
def Gl (X:Cx) (x:Str):Prop:=X.env.kindOf x=some .globalImplicit
theorem jO {E:Value→Shared→Prop} {pins:List (Addr × Obj)} {s:Shared} {σ:St} {H:Hp} {x:Str} {u:Value} {pos:Pos} {Q:Value→Shared→Prop} (I:Inv X pins σ H s) (hg:Gl X x) (hm:X.mg x=some u) (h:Q u s)
  (hd:(x == ("__debug__":Str))=false:=by decide):wpAny (model X.prog X.w) X.A (eval (.Name x pos) X.env) Q E s:=
 Calls.Name_function_global I.ok.kind hg (Calls.loadGlobal_global (by rw [I.ok.glob];exact I.mod.glob.keeps I.bk) hm h) hd
theorem iZ {E:Value→Shared→Prop} {pins:List (Addr × Obj)} {s:Shared} {σ:St} {H:Hp} {x:Str} {u:Value} {pos:Pos} {Q:Value→Shared→Prop} (I:Inv X pins σ H s) (hg:Gl X x) (hm:X.mg x=none) (hv:bootBuiltins x=some u) (h:Q u s)
  (hn:x≠"__name__":=by decide) (hd:(x == ("__debug__":Str))=false:=by decide):wpAny (model X.prog X.w) X.A (eval (.Name x pos) X.env) Q E s:=by
 obtain⟨mb,h1,h2⟩:=I.mod.blt
 exact Calls.Name_function_global I.ok.kind hg (Calls.loadGlobal_builtin (by rw [I.ok.glob];exact I.mod.glob.keeps I.bk) hm (by rw [I.ok.blt];exact h1.keeps I.bk) ((h2 x hn).trans hv) h) hd
theorem jL {x:Str} {v:V} {u:Value} {pos:Pos} (hg:Gl X x) (hm:X.mg x=some u) (r:cH v u) (hd:(x == ("__debug__":Str))=false:=by decide):PE X (.Name x pos) (tC v):=
 fun _ _ _ H _ I h=>jO I hg hm ⟨v,H,I,r,h⟩ hd
theorem gM {x:Str} {v:V} {u:Value} {pos:Pos} (hg:Gl X x) (hm:X.mg x=none) (hv:bootBuiltins x=some u) (r:cH v u) (hn:x≠"__name__":=by decide) (hd:(x == ("__debug__":Str))=false:=by decide):PE X (.Name x pos) (tC v):=
 fun _ _ _ H _ I h=>iZ I hg hm hv ⟨v,H,I,r,h⟩ hn hd
variable {a b:Expr} {ta tb:TE} {pos:Pos}
def PC (X:Cx) (op:CmpOp) (a b:Expr) (t:TE):Prop:=
 ∀(pins:List (Addr × Obj)) (s:Shared) (σ:St) (H:Hp) (Q:VK),Inv X pins σ H s→t σ H Q →
  wpAny (model X.prog X.w) X.A (eval a X.env) (fun v s₁=>wpAny (model X.prog X.w) X.A (eval b X.env) (fun u s₂=>wpAny (model X.prog X.w) X.A (compareOp op v u) (EP X pins σ Q) X.xe s₂) X.xe s₁) X.xe s
def tB (t:TE):TT:=fun σ H Q=>t σ H fun x H1=>∃c,x=.bl c∧Q c H1
theorem AcL {op:CmpOp} {t:TE} (h:PC X op a b t) (h1:behindInMarks op b=false:=by first|exact nobehind _ (by decide) (by decide)|rfl):PT X (.Compare a [op] [b] pos) (tB t):=by
 intro pins s σ H Q I hw
 refine wpAny_isTrue_Compare1 (thn (h pins s σ H _ I hw) fun v s1 h1=>thn h1 fun u s2 h2=>thn h2 fun c s3 ⟨x,H1,I1,r1,q1⟩=>?_) h1
 obtain⟨d,rfl,q⟩:=q1
 cases r1
 exact wpAny_truthy_bool ⟨H1,I1,q⟩
theorem cX {e:Expr} {t:TE} (h:PE X e t) (he:∀whole,isTrue e X.env whole=(do let v ← whole;standAt e.pos;holding [v] (truthy v)):=by intro _;rfl):PT X e (tB t):=by
 intro pins s σ H Q I hw
 refine isTrue_plain (thn (h pins s σ H _ I hw) fun v s1 ⟨x,H1,I1,r1,q1⟩=>?_) (he _)
 obtain⟨d,rfl,q⟩:=q1
 cases r1
 exact wpAny_truthy_bool ⟨H1,I1,q⟩
variable {tA tB':TT} {rest:List Expr}
def tAnd (t u:TT):TT:=fun σ H Q=>t σ H fun c H1=>if c=true then u σ H1 Q else Q false H1
def tOr (t u:TT):TT:=fun σ H Q=>t σ H fun c H1=>if c=true then Q true H1 else u σ H1 Q
def tNot (t:TT):TT:=fun σ H Q=>t σ H fun c H1=>Q (!c) H1
theorem jJ (ha:PT X a tA):PW X (.BoolOp .And [a] pos) tA:=by
 intro wh pins s σ H Q I h
 refine isTrue_and (thn (ha pins s σ H Q I h) fun c s1 e=>?_)
 cases c with
 | true=>exact isTrue_and_nil e
 | false=>exact e
theorem eV (ha:PT X a tA):PW X (.BoolOp .Or [a] pos) tA:=by
 intro wh pins s σ H Q I h
 refine isTrue_or (thn (ha pins s σ H Q I h) fun c s1 e=>?_)
 cases c with
 | false=>exact isTrue_or_nil e
 | true=>exact e
theorem nA (ha:PT X a tA) (hb:PW X (.BoolOp .And (b::rest) pos) tB'):PW X (.BoolOp .And (a::b::rest) pos) (tAnd tA tB'):=by
 intro wh pins s σ H Q I h
 refine isTrue_and (thn (ha pins s σ H _ I h) fun c s1 ⟨H1,I1,q1⟩=>?_)
 cases c with
 | true=>exact hb wh pins s1 σ H1 Q I1 q1
 | false=>exact⟨H1,I1,q1⟩
theorem gK (ha:PT X a tA) (hb:PW X (.BoolOp .Or (b::rest) pos) tB'):PW X (.BoolOp .Or (a::b::rest) pos) (tOr tA tB'):=by
 intro wh pins s σ H Q I h
 refine isTrue_or (thn (ha pins s σ H _ I h) fun c s1 ⟨H1,I1,q1⟩=>?_)
 cases c with
 | true=>exact⟨H1,I1,q1⟩
 | false=>exact hb wh pins s1 σ H1 Q I1 q1
theorem cY (ha:PT X a tA):PT X (.UnaryOp .Not a pos) (tNot tA):=by
 intro pins s σ H Q I h
 exact isTrue_not (ha pins s σ H (fun c H1=>Q (!c) H1) I h)
def tAndV (ta tb:TE):TE:=fun σ H Q=>ta σ H fun x H1=>∃c,x=.bl c∧if c=true then tb σ H1 Q else Q (.bl false) H1
def tNotV (ta:TE):TE:=fun σ H Q=>ta σ H fun x H1=>∃c,x=.bl c∧Q (.bl (!c)) H1
theorem kJ {op} {t:TE} (h:PE X a t):PE X (.BoolOp op [a] pos) t:=fun pins s σ H Q I hw=>BoolOp_one (h pins s σ H Q I hw)
theorem iU (ha:PE X a ta) (hb:PE X (.BoolOp .And (b::rest) pos) tb):PE X (.BoolOp .And (a::b::rest) pos) (tAndV ta tb):=by
 intro pins s σ H Q I h
 refine BoolOp_and (thn (ha pins s σ H _ I h) fun v s1 ⟨x,H1,I1,r1,q1⟩=>?_)
 obtain⟨c,rfl,q1⟩:=q1
 cases r1
 refine wpAny_truthy_bool ?_
 cases c with
 | true=>exact hb pins s1 σ H1 Q I1 q1
 | false=>exact⟨.bl false,H1,I1,rfl,q1⟩
theorem xK (ha:PE X a ta):PE X (.UnaryOp .Not a pos) (tNotV ta):=by
 intro pins s σ H Q I h
 refine UnaryOp_ (thn (ha pins s σ H _ I h) fun v s1 ⟨x,H1,I1,r1,q1⟩=>?_)
 obtain⟨c,rfl,q1⟩:=q1
 cases r1
 exact not_of (wpAny_truthy_bool ⟨.bl (!c),H1,I1,rfl,q1⟩)
end
def SqL (K:PySem.W.Frag) (H:Hp) (a:Addr) (xs:List V):Prop:=
 Rd H a (.lst xs) ∨
  ∃(o:Obj) (its:Array Value) (n:Nat),K.lookup a=some o∧o.cls=.type "list"∧o.dict=none∧o.data=.seq its n∧its.size≤sizeLine∧cB xs its.toList
def SqT (K:PySem.W.Frag) (H:Hp) (a:Addr) (xs:List V):Prop:=
 Rd H a (.tup xs) ∨
  ∃(o:Obj) (its:Array Value) (n:Nat),K.lookup a=some o∧o.cls=.type "tuple"∧o.data=.seq its n∧its.size≤sizeLine∧cB xs its.toList
def absV:Value→Option V
 | .none=>some .non
 | .bool b=>some (.bl b)
 | .int i _=>some (.int i)
 | .str x _=>some (.str x)
 | .bytes b _=>some (.byt b)
 | .float b _=>some (.flt b)
 | .ref a=>some (.ref a)
 | .type n=>some (.ty n)
 | _=>none
theorem cH.abs {x:V} {u:Value} (r:cH x u):absV u=some x:=by
 cases x with
 | non=>cases r;rfl
 | bl _=>cases r;rfl
 | int _=>obtain⟨t,rfl⟩:=r;rfl
 | str _=>obtain⟨t,rfl⟩:=r;rfl
 | byt _=>obtain⟨t,rfl⟩:=r;rfl
 | flt _=>obtain⟨t,rfl⟩:=r;rfl
 | ref _=>cases r;rfl
 | ty _=>cases r;rfl
theorem cH.inj {x y:V} {u:Value} (r:cH x u) (q:cH y u):x=y:=Option.some.inj (r.abs.symm.trans q.abs)
theorem cB.inj:∀{xs ys:List V} {us:List Value},cB xs us→cB ys us→xs=ys
 | _,_,_,.nil,.nil=>rfl
 | _,_,_,.cons r t,.cons r' t'=>by rw [r.inj r',cB.inj t t']
section
variable {X:Cx} {pins:List (Addr × Obj)} {σ:St} {H:Hp} {s:Shared} {a:Addr} {xs ys:List V}
theorem SqL.of {K:PySem.W.Frag} (h:H a=some (.lst xs)):SqL K H a xs:=.inl (.inl h)
theorem SqT.of {K:PySem.W.Frag} (h:H a=some (.tup xs)):SqT K H a xs:=.inl (.inl h)
theorem Inv.list (I:Inv X pins σ H s) (h:SqL X.K H a xs):∃its:List Value,cB xs its∧PlainL s.heap a its.toArray∧xs.length≤sizeLine:=by
 rcases h with h|⟨o,its,n,hk,hc,hd,hs,hz,r⟩
 ·obtain⟨z,its,n,r,e⟩:=h.ok I.hok
  exact⟨its,r,⟨_,n,e,rfl,rfl,rfl⟩,z⟩
 ·refine⟨its.toList,r,⟨o,n,I.kIn a o hk,hc,hd,by simpa using hs⟩,?_⟩
  have e:=r.length
  simp only [Array.length_toList] at e
  omega
theorem Inv.tuple (I:Inv X pins σ H s) (h:SqT X.K H a xs):∃its:List Value,cB xs its∧IsTup s.heap a its.toArray∧xs.length≤sizeLine:=by
 rcases h with h|⟨o,its,n,hk,hc,hs,hz,r⟩
 ·obtain⟨z,its,r,p⟩:=h.ok I.hok
  exact⟨its,r,p,z⟩
 ·refine⟨its.toList,r,⟨o,I.kIn a o hk,hc,n,by simpa using hs⟩,?_⟩
  have e:=r.length
  simp only [Array.length_toList] at e
  omega
theorem Inv.list_inj (I:Inv X pins σ H s) (h:SqL X.K H a xs) (h':SqL X.K H a ys):xs=ys:=by
 obtain⟨its,r,⟨o,n,e,_,_,d⟩,_⟩:=I.list h
 obtain⟨its',r',⟨o',n',e',_,_,d'⟩,_⟩:=I.list h'
 rw [e] at e';cases e'
 rw [d] at d'
 injection d' with d1 _
 have:its=its':=by simpa using congrArg Array.toList d1
 subst this
 exact r.inj r'
theorem Inv.tuple_inj (I:Inv X pins σ H s) (h:SqT X.K H a xs) (h':SqT X.K H a ys):xs=ys:=by
 obtain⟨its,r,⟨o,e,_,n,d⟩,_⟩:=I.tuple h
 obtain⟨its',r',⟨o',e',_,n',d'⟩,_⟩:=I.tuple h'
 rw [e] at e';cases e'
 rw [d] at d'
 injection d' with d1 _
 have:its=its':=by simpa using congrArg Array.toList d1
 subst this
 exact r.inj r'
end
abbrev Cx.wish (X:Cx) (E:Value→Shared→Prop):Cx:={ X with xe:=E }
abbrev Cx.nox (X:Cx):Cx:=X.wish fun _ _=>False
theorem Cx.Ok.wish {X:Cx} (ok:X.Ok) (E:Value→Shared→Prop):(X.wish E).Ok:=
 ⟨ok.mod,ok.kind,ok.glob,ok.blt,ok.above,ok.inj,ok.has,ok.cab,ok.hd,ok.frames,ok.stk,ok.exf,ok.bs,ok.bsz,ok.noex,ok.exfs,ok.funs,ok.frf⟩
theorem Cx.Ok.unwish {X:Cx} {E:Value→Shared→Prop} (ok:(X.wish E).Ok):X.Ok:=
 ⟨ok.mod,ok.kind,ok.glob,ok.blt,ok.above,ok.inj,ok.has,ok.cab,ok.hd,ok.frames,ok.stk,ok.exf,ok.bs,ok.bsz,ok.noex,ok.exfs,ok.funs,ok.frf⟩
section
variable {X:Cx} {pins:List (Addr × Obj)} {σ:St} {H:Hp} {s:Shared} {E:Value→Shared→Prop}
theorem Inv.wish (I:Inv X pins σ H s) (E:Value→Shared→Prop):Inv (X.wish E) pins σ H s:=⟨I.ok.wish E,I.os,I.bare,I.base,I.loc,I.cell,I.free,I.freeC,I.pin,I.hok,I.len⟩
theorem Inv.unwish (I:Inv (X.wish E) pins σ H s):Inv X pins σ H s:=⟨I.ok.unwish,I.os,I.bare,I.base,I.loc,I.cell,I.free,I.freeC,I.pin,I.hok,I.len⟩
theorem SP.unwish {D:jT} {f:Flow} {s':Shared} (h:SP (X.wish E) pins D f s'):SP X pins D f s':=by
 cases f with
 | next=>obtain⟨σ',H',I,q⟩:=h;exact⟨σ',H',I.unwish,q⟩
 | brk=>obtain⟨σ',H',I,q⟩:=h;exact⟨σ',H',I.unwish,q⟩
 | cont=>obtain⟨σ',H',I,q⟩:=h;exact⟨σ',H',I.unwish,q⟩
 | ret u=>obtain⟨v,σ',H',I,r,q⟩:=h;exact⟨v,σ',H',I.unwish,r,q⟩
theorem PE.nox {e:Expr} {t:TE} (h:PE X.nox e t):PE X e t:=fun pins s σ H Q I hw=>
 wpAny_mono (h pins s σ H Q (I.wish _) hw) (fun _ _ ⟨v,H',I',r,q⟩=>⟨v,H',I'.unwish,r,q⟩) fun _ _ z=>False.elim z
theorem PSs.nox {st:List Stmt} {t:TS} (h:PSs X.nox st t):PSs X st t:=fun pins s σ H D I hw=>
 wpAny_mono (h pins s σ H D (I.wish _) hw) (fun _ _ q=>q.unwish) fun _ _ z=>False.elim z
end
section
variable {X:Cx} {st:Stmt} {rest:List Stmt} {t u:TS} {e:Expr} {te:TE} {pos:Pos}
def tNext:TS:=fun D σ H=>D.nx σ H
def tSeq (t u:TS):TS:=fun D σ H=>t { D with nx:=u D } σ H
theorem aZ:PSs X [] tNext:=fun _ _ σ H _ I h=>wpAny_execs_nil ⟨σ,H,I,h⟩
theorem aF (h1:PS X st t) (h2:PSs X rest u):PSs X (st::rest) (tSeq t u):=by
 intro pins s σ H D I h
 refine wpAny_execs_cons (thn (h1 pins s σ H { D with nx:=u D } I h) fun f s1 q=>?_)
 cases f with
 | next=>
  obtain⟨σ',H',I',q⟩:=q
  exact h2 pins s1 σ' H' D I' q
 | ret v=>exact q
 | brk=>exact q
 | cont=>exact q
theorem aJ (h1:PS X st t):PSs X [st] t:=by
 intro pins s σ H D I h
 refine wpAny_execs_cons (thn (h1 pins s σ H D I h) fun f s1 q=>?_)
 cases f with
 | next=>exact wpAny_execs_nil q
 | ret v=>exact q
 | brk=>exact q
 | cont=>exact q
theorem Inv.quiet {pins:List (Addr × Obj)} {σ:St} {H:Hp} {s:Shared} (I:Inv X pins σ H s):interactive X.env=false:=by simp [interactive,I.ok.kind]
def tDrop (te:TE):TS:=fun D σ H=>te σ H fun _ H1=>D.nx σ H1
theorem cU (he:PE X e te) (hs:swapsWith e none pos.line X.env=pure false:=by rfl):PS X (.Expr e pos) (tDrop te):=by
 intro pins s σ H D I h
 exact wpAny_Expr_any (thn (he pins s σ H _ I h) fun v s1 ⟨x,H1,I1,r1,q1⟩=>⟨σ,H1,I1,q1⟩) I.quiet hs
def tRet (te:TE):TS:=fun D σ H=>te σ H D.rt
theorem bQ (he:PE X e te):PS X (.Return (some e) pos) (tRet te):=by
 intro pins s σ H D I h
 exact wpAny_Return_some (thn (he pins s σ H _ I h) fun v s1 ⟨x,H1,I1,r1,q1⟩=>⟨x,σ,H1,I1,r1,q1⟩)
def tIfS (c:TT) (t u:TS):TS:=fun D σ H=>c σ H fun b H1=>if b=true then t D σ H1 else u D σ H1
theorem cK {c:Expr} {a b:List Stmt} {tc:TT} (hc:PT X c tc) (ha:PSs X a t) (hb:PSs X b u):PS X (.If c a b pos) (tIfS tc t u):=by
 intro pins s σ H D I h
 refine wpAny_If (thn (hc pins s σ H _ I h) fun d s1 ⟨H1,I1,q1⟩=>?_)
 cases d with
 | true=>exact ha pins s1 σ H1 D I1 q1
 | false=>exact hb pins s1 σ H1 D I1 q1
def AbW:TS:=fun _ _ _=>False
theorem qG:PS X st AbW:=fun _ _ _ _ _ _ h=>h.elim
theorem cC {sts:List Stmt}:PSs X sts AbW:=fun _ _ _ _ _ _ h=>h.elim
end
abbrev TG:=V→St→Hp→(St→Hp→Prop)→Prop
abbrev TGs:=List V→St→Hp→(St→Hp→Prop)→Prop
def PG (X:Cx) (target:Expr) (t:TG):Prop:=
 ∀(pins:List (Addr × Obj)) (s:Shared) (σ:St) (H:Hp) (v:V) (u:Value) (Q:St→Hp→Prop),Inv X pins σ H s→cH v u→t v σ H Q →
  wpAny (model X.prog X.w) X.A (assign target X.env u) (fun _ s'=>∃ σ' H',Inv X pins σ' H' s'∧Q σ' H') X.xe s
def PGs (X:Cx) (ts:List Expr) (t:TGs):Prop:=
 ∀(pins:List (Addr × Obj)) (s:Shared) (σ:St) (H:Hp) (vs:List V) (us:List Value) (Q:St→Hp→Prop),Inv X pins σ H s→cB vs us→t vs σ H Q →
  wpAny (model X.prog X.w) X.A (assignInOrder ((assignEach ts X.env).map (·.2)) us) (fun _ s'=>∃ σ' H',Inv X pins σ' H' s'∧Q σ' H') X.xe s
abbrev TSet:=V→V→V→Hp→(Hp→Prop)→Prop
def PSet (X:Cx) (t:TSet):Prop:=
 ∀(pins:List (Addr × Obj)) (s:Shared) (σ:St) (H:Hp) (o i v:V) (ov iv u:Value) (Q:Hp→Prop),Inv X pins σ H s→cH o ov→cH i iv→cH v u→t o i v H Q →
  wpAny (model X.prog X.w) X.A (setItem ov iv u) (fun _ s'=>∃H',Inv X pins σ H' s'∧Q H') X.xe s
abbrev TIp:=V→V→Hp→VK→Prop
def PIp (X:Cx) (op:Operator) (t:TIp):Prop:=
 ∀(pins:List (Addr × Obj)) (s:Shared) (σ:St) (H:Hp) (x y:V) (v u:Value) (Q:VK),Inv X pins σ H s→cH x v→cH y u→t x y H Q →
  wpAny (model X.prog X.w) X.A (inplaceOp op v u) (EP X pins σ Q) X.xe s
section
variable {X:Cx} {pos:Pos}
def dX (i:Nat):TG:=fun v σ H Q=>Q (σ.set i (some v)) H
theorem bX {i:Nat} {x:Str} (hN:X.N.Nodup) (hi:X.N[i]?=some x) (hx:Loc X.env.scope x) (hf:X.fn x=true∨X.env.scope.names.lookup x=some .local:=by first|exact .inl rfl|exact .inr rfl|assumption):PG X (.Name x pos) (dX i):=by
 intro pins s σ H v u Q I r h
 exact wpAny_assign_Name (kU I hN hi hx r (fun s' I'=>⟨_,H,I',h⟩) hf)
def gNil:TGs:=fun vs σ H Q=>vs=[]∧Q σ H
def lK (t:TG) (u:TGs):TGs:=fun vs σ H Q=>∃v r,vs=v::r∧t v σ H fun σ' H'=>u r σ' H' Q
theorem fQ:PGs X [] gNil:=by
 intro pins s σ H vs us Q I r h
 obtain⟨e,h⟩:=h
 subst e
 cases r
 exact assignInOrder_nil ⟨σ,H,I,h⟩
theorem cS {e:Expr} {es:List Expr} {t:TG} {u:TGs} (h1:PG X e t) (h2:PGs X es u)
  (hs:(assignEach (e::es) X.env).map (·.2)=assign e X.env::(assignEach es X.env).map (·.2):=by rfl):PGs X (e::es) (lK t u):=by
 intro pins s σ H vs us Q I r h
 obtain⟨v,vr,e1,h⟩:=h
 subst e1
 cases r with
 | cons r rr=>
  rw [hs]
  refine assignInOrder_cons (thn (h1 pins s σ H _ _ _ I r h) fun _ s1 ⟨σ1,H1,I1,q1⟩=>?_)
  exact h2 pins s1 σ1 H1 _ _ Q I1 rr q1
def gTup (K:PySem.W.Frag) (n:Nat) (t:TGs):TG:=fun v σ H Q=>∃a xs,v=.ref a∧SqT K H a xs∧xs.length=n∧t xs σ H Q
theorem iH {es:List Expr} {k:Nat} {t:TGs} {n:Nat} (hc:X.calm=true) (h:PGs X es t)
  (hn:(assignEach es X.env).length=n:=by rfl) (hst:(assignEach es X.env).findIdx? (·.1)=none:=by rfl):PG X (.Tuple es k pos) (gTup X.K n t):=by
 intro pins s σ H v u Q I r hw
 obtain⟨a,xs,e1,hq,hl,hw⟩:=hw
 subst e1
 cases r
 obtain⟨its,rv,ht,hz⟩:=I.tuple hq
 refine assign_Tuple_tuple (I.ok.hd hc) ht (by simp [hn,← hl,rv.length]) hst fun h' hx=>?_
 have I1:Inv X pins σ H { s with heap:=h' }:=I.kept (t':=s.toks) fun b o e=>hx b o (Nat.ne_of_lt (Heap.lt_size e)) e
 exact h pins _ σ H xs _ Q I1 (by simpa using rv) hw
def gSub (to ti:TE) (t:TSet):TG:=fun v σ H Q=>to σ H fun o H1=>ti σ H1 fun i H2=>t o i v H2 fun H3=>Q σ H3
theorem xJ {o i:Expr} {to ti:TE} {t:TSet} (ho:PE X o to) (hi:PE X i ti) (hs:PSet X t)
  (ha:∀v,assign (.Subscript o i pos) X.env v=(do
   let ov ← holding [v] (eval o X.env)
   let iv ← holding [v,ov] (eval i X.env)
   standAt pos
   holding [v,ov,iv] (setItem ov iv v)
   release [v,ov,iv] []):=by intro _;rfl):PG X (.Subscript o i pos) (gSub to ti t):=by
 intro pins s σ H v u Q I r h
 rw [ha]
 refine wpAny_bind (wpAny_holding (thn (ho pins s σ H _ I h) fun ov s1 ⟨x,H1,I1,r1,q1⟩=>?_))
 refine wpAny_bind (wpAny_holding (thn (hi pins s1 σ H1 _ I1 q1) fun iv s2 ⟨y,H2,I2,r2,q2⟩=>?_))
 refine wpAny_bind (wpAny_standAt (wpAny_bind (wpAny_holding (thn (hs pins s2 σ H2 x y v ov iv u _ I2 r1 r2 r q2) fun _ s3 ⟨H3,I3,q3⟩=>?_))))
 exact wpAny_release ⟨σ,H3,I3,q3⟩
def tAsg (te:TE) (g:TG):TS:=fun D σ H=>te σ H fun x H1=>g x σ H1 D.nx
theorem xH {tg e:Expr} {te:TE} {g:TG} (he:PE X e te) (hg:PG X tg g) (hs:swapsWithSole [tg] e pos.line X.env=pure false:=by rfl) (hw:swappedStores [tg] e X.env=pure none:=by rfl)
  (h1:(assignEach [tg] X.env).map (·.2)=[assign tg X.env]:=by rfl):PS X (.Assign [tg] e pos) (tAsg te g):=by
 intro pins s σ H D I h
 refine wpAny_Assign_stores (thn (he pins s σ H _ I h) fun v s1 ⟨x,H1,I1,r1,q1⟩=>?_) hs hw
 rw [h1]
 exact thn (hg pins s1 σ H1 x v _ I1 r1 q1) fun _ s2 q=>q
theorem bU {i:Nat} {x:Str} {e:Expr} {te:TE} {pos':Pos} (hN:X.N.Nodup) (hi:X.N[i]?=some x) (hx:Loc X.env.scope x) (he:PE X e te) (hs:swapsWith e (some (.Name x pos')) pos.line X.env=pure false:=by rfl) (hf:X.fn x=true∨X.env.scope.names.lookup x=some .local:=by first|exact .inl rfl|exact .inr rfl|assumption):
  PS X (.Assign [.Name x pos'] e pos) (tAsg te (dX i)):=by
 intro pins s σ H D I h
 refine wpAny_Assign_Name (thn (he pins s σ H _ I h) fun v s1 ⟨y,H1,I1,r1,q1⟩=>?_) hs
 exact kU I1 hN hi hx r1 (fun s2 I2=>⟨_,H1,I2,q1⟩) hf
def tAug (i:Nat) (te:TE) (ti:TIp):TS:=fun D σ H=>∃x,σ[i]?=some (some x)∧te σ H fun y H1=>ti x y H1 fun z H2=>D.nx (σ.set i (some z)) H2
theorem AcQ {i:Nat} {x:Str} {e:Expr} {te:TE} {op:Operator} {ti:TIp} {pos':Pos} (hN:X.N.Nodup) (hi:X.N[i]?=some x) (hx:Loc X.env.scope x) (he:PE X e te) (ho:PIp X op ti) (hf:X.fn x=true∨X.env.scope.names.lookup x=some .local:=by first|exact .inl rfl|exact .inr rfl|assumption):
  PS X (.AugAssign (.Name x pos') op e pos) (tAug i te ti):=by
 intro pins s σ H D I h
 obtain⟨v,e1,h⟩:=h
 obtain⟨m,hn,hl⟩:=I.loc
 have vis:Vis X.env.scope x:=by rcases hx with k|k;exact .inl k;exact .inr (.inl k)
 obtain⟨u,r,l⟩:=hl i x v hi e1 vis
 refine wpAny_AugAssign_Name ?_
 have go:wpAny (model X.prog X.w) X.A (eval e X.env) (fun w s₂=>wpAny (model X.prog X.w) X.A (inplaceOp op u w) (fun r s₃=>wpAny (model X.prog X.w) X.A (storeName X.env x r) (fun _=>SP X pins D .next) X.xe s₃) X.xe s₂) X.xe s:=by
  refine thn (he pins s σ H _ I h) fun w s1 ⟨y,H1,I1,r1,q1⟩=>?_
  refine thn (ho pins s1 σ H1 v y u w _ I1 r r1 q1) fun z s2 ⟨zv,H2,I2,r2,q2⟩=>?_
  exact kU I2 hN hi hx r2 (fun s3 I3=>⟨_,H2,I3,q2⟩) hf
 rcases l with ⟨hk,hm⟩|⟨hk,c,hc,hcell⟩
 ·exact wpAny_loadName_local I.ok.kind hk hn hm go
 ·rcases hk with hk|hk
  ·exact wpAny_loadName_cell I.ok.kind hk hc hcell go
  ·rcases hx with k|k
   ·have:X.env.scope.names.lookup x=some .free:=hk
    rw [k] at this;cases this
   ·have:X.env.scope.names.lookup x=some .free:=hk
    rw [k] at this;cases this
def ipI (f:Int→Int→Int):TIp:=fun x y H Q=>∃i j,x=.int i∧y=.int j∧Q (.int (f i j)) H
theorem AdT:PIp X .Add (ipI fun i j=>i+j):=by
 intro pins s σ H x y v u Q I r1 r2 h
 obtain⟨i,j,e1,e2,q⟩:=h
 subst e1;subst e2
 obtain⟨t,rfl⟩:=r1
 obtain⟨t',rfl⟩:=r2
 exact iadd_int ⟨.int _,H,I.tok _,⟨_,rfl⟩,q⟩
end
section
variable {X:Cx} {pos:Pos}
def AbV (c:TT) (tb:TS):TS:=fun D σ H=>∃W:Nat→St→Hp→Prop,(∃m,W m σ H)∧∀m σ H,W m σ H →
 c σ H fun b H1=>if b=true then ∃N:St→Hp→Prop,(∀ σ' H',N σ' H'→∃m',m'<m∧W m' σ' H')∧tb { D with nx:=N,ct:=N,bk:=D.nx } σ H1 else D.nx σ H1
theorem qF {c:Expr} {body:List Stmt} {tc:TT} {tb:TS} (hp:PassesOwn (model X.prog X.w) X.A X.env X.xe) (hc:PT X c tc) (hb:PSs X body tb):PS X (.While c body [] pos) (AbV tc tb):=by
 intro pins s σ H D I h
 obtain⟨W,⟨m0,w0⟩,turn⟩:=h
 refine wpAny_While (codeAny_whileLoop (fun n s'=>∃ σ' H',Inv X pins σ' H' s'∧W n σ' H') ?_ m0 ⟨σ,H,I,w0⟩)
 rintro n s1 ⟨σ1,H1,I1,w1⟩
 refine wpAny_passesOwn hp (thn (hc pins s1 σ1 H1 _ I1 (turn n σ1 H1 w1)) fun b s2 ⟨H2,I2,q2⟩=>?_)
 cases b with
 | true=>
  obtain⟨N,hN,q2⟩:=q2
  rw [if_pos rfl]
  refine wpAny_passesOwn hp (thn (hb pins s2 σ1 H2 _ I2 q2) fun f s3 q3=>?_)
  cases f with
  | next=>
   obtain⟨σ3,H3,I3,n3⟩:=q3
   obtain⟨m',hm,w3⟩:=hN σ3 H3 n3
   exact⟨m',hm,σ3,H3,I3,w3⟩
  | cont=>
   obtain⟨σ3,H3,I3,n3⟩:=q3
   obtain⟨m',hm,w3⟩:=hN σ3 H3 n3
   exact⟨m',hm,σ3,H3,I3,w3⟩
  | brk=>exact q3
  | ret v=>exact q3
 | false=>
  rw [if_neg Bool.false_ne_true]
  exact wpAny_execs_nil ⟨σ1,H2,I2,q2⟩
end
structure It where
 go:Nat→Hp→Prop
 yld:Nat→Hp→V→Hp→Prop
 stop:Nat→Hp→Prop
def iN (X:Cx) (pins:List (Addr × Obj)) (H:Hp) (b:Addr):Prop:=
 H b=none∧b≠X.env.locals∧b ∉ X.fs∧(b ∈ X.ex∨X.s₀.heap.objs.size≤b)∧(∀x c,X.env.cells.lookup x=some c→c≠b)∧∀p ∈ X.pn++pins,p.1≠b
theorem Inv.fpOk {X:Cx} {pins:List (Addr × Obj)} {σ:St} {H H':Hp} {s:Shared} {b:Addr} (I:Inv X pins σ H s) (hb:s.heap.objs.size≤b) (hn:H' b=none):iN X pins H' b:=by
 refine⟨hn,Nat.ne_of_gt (Nat.lt_of_lt_of_le I.lt hb),I.nofs hb,.inr (Nat.le_trans I.sz hb),fun x c e z=>?_,fun p hp z=>?_⟩
 ·obtain⟨v,q⟩:=I.cell x c e
  exact absurd (Nat.lt_of_lt_of_le q.lt (by rw [z];exact hb)) (Nat.lt_irrefl _)
 ·exact absurd (Nat.lt_of_lt_of_le (Heap.lt_size (I.pin p hp).1) (by rw [z];exact hb)) (Nat.lt_irrefl _)
structure Turn (P:Program) (w:World) (K:PySem.W.Frag) (tg:Expr) (J:It) (fp:List Addr) (it:Addr) (tn:Nat→Heap→Prop):Prop where
 mem:it ∈ fp
 obj:∀i h,tn i h→∀b ∈ fp,∃o,h.get? b=some o∧∀v,o.data≠.cell v
 keep:∀i h h',tn i h→(∀b ∈ fp,∀o,h.get? b=some o→h'.get? b=some o)→tn i h'
 item:∀(X:Cx),X.prog=P→X.w=w→X.K=K→X.calm=true→∀(i:Nat) (pins:List (Addr × Obj)) (s:Shared) (σ:St) (H:Hp) (E:Value→Shared→Prop),Inv X pins σ H s→(∀b ∈ fp,iN X pins H b)→tn i s.heap→J.go i H →
  wpAny (model P w) X.A (pyNext (.ref it)) (fun r s1=>∃u,r=some u ∧
   wpAny (model P w) X.A (letOwnedTupleGo tg (.ref it) u) (fun _ s2=>∃x H',Inv X pins σ H' s2∧cH x u∧J.yld i H x H'∧tn (i+1) s2.heap∧∀b ∈ fp,H' b=none) E s1) E s
 done:∀(X:Cx),X.prog=P→X.w=w→X.K=K→X.calm=true→∀(i:Nat) (pins:List (Addr × Obj)) (s:Shared) (σ:St) (H:Hp) (E:Value→Shared→Prop),Inv X pins σ H s→(∀b ∈ fp,iN X pins H b)→tn i s.heap→J.stop i H →
  wpAny (model P w) X.A (pyNext (.ref it)) (fun r s1=>r=none∧Inv X pins σ H s1) E s
 self:∀(A:Around) (i:Nat) (s:Shared) (Q:Value→Shared→Prop) (E:Value→Shared→Prop),tn i s.heap→Q (.ref it) s→wpAny (model P w) A (pyIter (.ref it)) Q E s
abbrev TI:=St→Hp→(It→Hp→Prop)→Prop
def PIE (X:Cx) (pins:List (Addr × Obj)) (σ:St) (tg:Expr) (R:It→Hp→Prop) (itv:Value) (s2:Shared):Prop:=
 ∃(it:Addr) (fp:List Addr) (tn:Nat→Heap→Prop) (J:It) (H':Hp),itv=.ref it∧Inv X pins σ H' s2∧Turn X.prog X.w X.K tg J fp it tn∧tn 0 s2.heap∧(∀b ∈ fp,iN X pins H' b)∧R J H'
def PI (X:Cx) (tg iter:Expr) (wi:TI):Prop:=
 ∀(pins:List (Addr × Obj)) (s:Shared) (σ:St) (H:Hp) (R:It→Hp→Prop),Inv X pins σ H s→wi σ H R →
  wpAny (model X.prog X.w) X.A (eval iter X.env) (fun v s1=>wpAny (model X.prog X.w) X.A (pyIter v) (PIE X pins σ tg R) X.xe s1) X.xe s
theorem wF {M:Model} {A:Around} {E:Value→Shared→Prop} {s:Shared} {tg:Expr} {it:Addr} {u:Value} {o:Obj} {n:String} {vs:Array Value} {Q:Unit→Shared→Prop} (ho:s.heap.get? it=some o) (hc:o.cls=.type n) (hd:o.data=.fields vs)
  (hn:["enumerate","zip","dict_itemiterator","dict_reverseitemiterator","odict_iterator","itertools.zip_longest","itertools.pairwise"].contains n=false) (hQ:Q () s):wpAny M A (letOwnedTupleGo tg (.ref it) u) Q E s:=by
 unfold letOwnedTupleGo
 cases tg <;> first
  | exact wpAny_pure hQ
  | (cases u <;> first
    | exact wpAny_pure hQ
    | (refine wpAny_bind (wpAny_load ho ?_)
       rw [hc,hd]
       show wpAny M A (if (["enumerate","zip","dict_itemiterator","dict_reverseitemiterator","odict_iterator","itertools.zip_longest","itertools.pairwise"].contains n && vs[0]? == some (rawInt _))=true then _ else _) Q E s
       rw [if_neg (by intro h;rw [hn,Bool.false_and] at h;cases h)]
       exact wpAny_pure hQ))
def Itl (K:PySem.W.Frag) (a:Addr):It:=
 ⟨fun i H=>∃xs x,SqL K H a xs∧xs[i]?=some x,fun i H x H'=>H'=H∧∀xs,SqL K H a xs→xs[i]?=some x,fun i H=>∃xs,SqL K H a xs∧xs.length≤i⟩
def Itt (K:PySem.W.Frag) (a:Addr):It:=
 ⟨fun i H=>∃xs x,SqT K H a xs∧xs[i]?=some x,fun i H x H'=>H'=H∧∀xs,SqT K H a xs→xs[i]?=some x,fun i H=>∃xs,SqT K H a xs∧xs.length≤i⟩
def Itr (lo:Int) (n:Nat):It:=⟨fun i _=>i<n,fun i H x H'=>H'=H∧x=.int (lo+i),fun i _=>n≤i⟩
theorem rX {P:Program} {w:World} {K:PySem.W.Frag} {tg:Expr} (a it:Addr):Turn P w K tg (Itl K a) [it] it (fun i h=>h.IsListIter it a i) where
 mem:=by simp
 obj:=fun i h st b hb=>by
  have e:b=it:=by simpa using hb
  subst e
  obtain⟨o,e,c,d⟩:=st
  exact⟨o,e,fun v z=>by rw [d] at z;cases z⟩
 keep:=fun i h h' st k=>st.at fun o e=>k it (by simp) o e
 item:=by
  intro X hP hw hK hc i pins s σ H E I hf st hg
  subst hP hw hK
  obtain⟨xs,x,hq,hx⟩:=hg
  obtain⟨its,rv,p,hz⟩:=I.list hq
  obtain⟨u,hu,ru⟩:=rv.get hx
  obtain⟨f0,f1,f2,f3,f4,f5⟩:=hf it (by simp)
  refine wpAny_pyNext_list_item st p.isList (x:=u) (by simpa using hu) fun h' st' sb=>?_
  have I1:Inv X pins σ H { s with heap:=h' }:=I.turned (t':=s.toks) (fun b o hb e=>(sb.2 b hb).trans e) f0 f1 f3 f4 f5
  obtain⟨o,e,c,d⟩:=id st'
  exact⟨u,rfl,wF (s:={ s with heap:=h' }) e c d (by decide) ⟨x,H,I1,ru,⟨rfl,fun ys hy=>by rw [I.list_inj hy hq];exact hx⟩,st',fun b hb=>(hf b hb).1⟩⟩
 done:=by
  intro X hP hw hK hc i pins s σ H E I hf st hg
  subst hP hw hK
  obtain⟨xs,hq,hx⟩:=hg
  obtain⟨its,rv,p,hz⟩:=I.list hq
  obtain⟨f0,f1,f2,f3,f4,f5⟩:=hf it (by simp)
  have hl:=rv.length
  exact wpAny_pyNext_list_end (I.ok.hd hc) st p.isList (by simp;omega) fun h' eb=>⟨rfl,I.turned (t':=s.toks) (fun b o hb e=>eb b o hb e) f0 f1 f3 f4 f5⟩
 self:=fun _ _ _ _ _ st h=>wpAny_pyIter_listiter st h
theorem pK {P:Program} {w:World} {K:PySem.W.Frag} {tg:Expr} (a it:Addr):Turn P w K tg (Itt K a) [it] it (fun i h=>h.IsTupleIter it a i) where
 mem:=by simp
 obj:=fun i h st b hb=>by
  have e:b=it:=by simpa using hb
  subst e
  obtain⟨o,e,c,d⟩:=st
  exact⟨o,e,fun v z=>by rw [d] at z;cases z⟩
 keep:=fun i h h' st k=>st.at fun o e=>k it (by simp) o e
 item:=by
  intro X hP hw hK hc i pins s σ H E I hf st hg
  subst hP hw hK
  obtain⟨xs,x,hq,hx⟩:=hg
  obtain⟨its,rv,p,hz⟩:=I.tuple hq
  obtain⟨u,hu,ru⟩:=rv.get hx
  obtain⟨f0,f1,f2,f3,f4,f5⟩:=hf it (by simp)
  refine wpAny_pyNext_tuple_item st (show s.heap.IsTuple a its.toArray from p) (x:=u) (by simpa using hu) fun h' st' sb=>?_
  have I1:Inv X pins σ H { s with heap:=h' }:=I.turned (t':=s.toks) (fun b o hb e=>(sb.2 b hb).trans e) f0 f1 f3 f4 f5
  obtain⟨o,e,c,d⟩:=id st'
  exact⟨u,rfl,wF (s:={ s with heap:=h' }) e c d (by decide) ⟨x,H,I1,ru,⟨rfl,fun ys hy=>by rw [I.tuple_inj hy hq];exact hx⟩,st',fun b hb=>(hf b hb).1⟩⟩
 done:=by
  intro X hP hw hK hc i pins s σ H E I hf st hg
  subst hP hw hK
  obtain⟨xs,hq,hx⟩:=hg
  obtain⟨its,rv,p,hz⟩:=I.tuple hq
  obtain⟨f0,f1,f2,f3,f4,f5⟩:=hf it (by simp)
  have hl:=rv.length
  exact wpAny_pyNext_tuple_end (I.ok.hd hc) st (show s.heap.IsTuple a its.toArray from p) (by simp;omega) fun h' eb=>⟨rfl,I.turned (t':=s.toks) (fun b o hb e=>eb b o hb e) f0 f1 f3 f4 f5⟩
 self:=fun _ _ _ _ _ st h=>wpAny_pyIter_tupleiter st h
theorem wS {P:Program} {w:World} {K:PySem.W.Frag} {tg:Expr} (it:Addr) (lo:Int) (n:Nat):Turn P w K tg (Itr lo n) [it] it (fun i h=>IsRangeIter h it (lo+(i:Nat) * 1) ((n:Int)-(i:Nat)) 1) where
 mem:=by simp
 obj:=fun i h st b hb=>by
  have e:b=it:=by simpa using hb
  subst e
  exact⟨_,st,fun v z=>by
   have z':Data.fields _=Data.cell v:=z
   cases z'⟩
 keep:=fun i h h' st k=>k it (by simp) _ st
 item:=by
  intro X hP hw hK hc i pins s σ H E I hf st hg
  subst hP hw hK
  obtain⟨f0,f1,f2,f3,f4,f5⟩:=hf it (by simp)
  have W:=Walks.range (prog:=X.prog) (w:=X.w) (I.ok.hd hc) it lo 1 n
  refine W.item i s _ _ hg st fun v h' tk hv st' kk=>?_
  obtain⟨t,rfl⟩:=hv
  have I1:Inv X pins σ H { s with heap:=h',toks:=tk }:=I.turned (fun b o hb e=>kk b o (by simpa using hb) e) f0 f1 f3 f4 f5
  refine⟨_,rfl,wF (s:={ s with heap:=h',toks:=tk }) (n:="range_iterator") st' rfl rfl (by decide) ⟨.int (lo+i),H,I1,⟨t,?_⟩,⟨rfl,rfl⟩,st',fun b hb=>(hf b hb).1⟩⟩
  rw [Int.mul_one]
 done:=by
  intro X hP hw hK hc i pins s σ H E I hf st hg
  subst hP hw hK
  obtain⟨f0,f1,f2,f3,f4,f5⟩:=hf it (by simp)
  exact wpAny_pyNext_range_end (I.ok.hd hc) st (by have:n≤i:=hg;omega) fun h' eb=>⟨rfl,I.turned (t':=s.toks) (fun b o hb e=>eb b o hb e) f0 f1 f3 f4 f5⟩
 self:=fun _ _ _ _ _ st h=>wpAny_pyIter_rangeiter st h
section
variable {X:Cx} {tg:Expr}
def iList (K:PySem.W.Frag) (tl:TE):TI:=fun σ H R=>tl σ H fun x H1=>∃a,x=.ref a∧(∃xs,SqL K H1 a xs)∧R (Itl K a) H1
def iTup (K:PySem.W.Frag) (tl:TE):TI:=fun σ H R=>tl σ H fun x H1=>∃a,x=.ref a∧(∃xs,SqT K H1 a xs)∧R (Itt K a) H1
theorem oX {l:Expr} {tl:TE} (hl:PE X l tl):PI X tg l (iList X.K tl):=by
 intro pins s σ H R I h
 refine thn (hl pins s σ H _ I h) fun v s1 ⟨x,H1,I1,r1,q1⟩=>?_
 obtain⟨a,e,⟨xs,hq⟩,q⟩:=q1
 subst e
 cases r1
 obtain⟨its,rv,p,hz⟩:=I1.list hq
 refine wpAny_pyIter_list p.isList ?_
 refine⟨s1.heap.objs.size,[s1.heap.objs.size],_,_,H1,rfl,I1.kept (t':=s1.toks) fun b o e=>Heap.get?_push_of_some _ e,rX a _,⟨_,Heap.get?_push_size _ rfl,rfl,rfl⟩,fun b hb=>?_,q⟩
 have e:b=s1.heap.objs.size:=by simpa using hb
 subst e
 exact I1.fpOk (Nat.le_refl _) (I1.hok.fresh (Nat.le_refl _))
theorem gQ {l:Expr} {tl:TE} (hl:PE X l tl):PI X tg l (iTup X.K tl):=by
 intro pins s σ H R I h
 refine thn (hl pins s σ H _ I h) fun v s1 ⟨x,H1,I1,r1,q1⟩=>?_
 obtain⟨a,e,⟨xs,hq⟩,q⟩:=q1
 subst e
 cases r1
 obtain⟨its,rv,p,hz⟩:=I1.tuple hq
 refine wpAny_pyIter_tuple (show s1.heap.IsTuple a its.toArray from p) ?_
 refine⟨s1.heap.objs.size,[s1.heap.objs.size],_,_,H1,rfl,I1.kept (t':=s1.toks) fun b o e=>Heap.get?_push_of_some _ e,pK a _,⟨_,Heap.get?_push_size _ rfl,rfl,rfl⟩,fun b hb=>?_,q⟩
 have e:b=s1.heap.objs.size:=by simpa using hb
 subst e
 exact I1.fpOk (Nat.le_refl _) (I1.hok.fresh (Nat.le_refl _))
theorem vJ {pins:List (Addr × Obj)} {σ:St} {H:Hp} {s:Shared} {R:It→Hp→Prop} {E:Value→Shared→Prop} {lo hi:Int} {t u v:Tok} {tk:Nat} (I:Inv X pins σ H s) (h1:-(2 ^ 62)≤lo) (h2:lo<2 ^ 62) (h3:-(2 ^ 62)≤hi) (h4:hi<2 ^ 62)
  (q:R (Itr lo (hi-lo).toNat) H):wpAny (model X.prog X.w) X.A (pyIter (.ref s.heap.objs.size)) (PIE X pins σ tg R) E { s with heap:=s.heap.push { cls:=.type "range",data:=.fields #[.int lo t,.int hi u,.int 1 v] },toks:=tk }:=by
 refine wpAny_pyIter_range (IsRange.new ..) (small_one h1 h2 h3 h4) ?_
 have I1:Inv X pins σ H { s with heap:=s.heap.push { cls:=.type "range",data:=.fields #[.int lo t,.int hi u,.int 1 v] },toks:=tk }:=I.kept fun b o e=>Heap.get?_push_of_some _ e
 refine⟨(s.heap.push { cls:=.type "range",data:=.fields #[.int lo t,.int hi u,.int 1 v] }).objs.size,[(s.heap.push { cls:=.type "range",data:=.fields #[.int lo t,.int hi u,.int 1 v] }).objs.size],_,_,H,rfl,
  I1.kept (t':=tk) fun b o e=>Heap.get?_push_of_some _ e,wS _ lo (hi-lo).toNat,?_,fun b hb=>?_,q⟩
 ·have e1:lo+((0:Nat):Int) * 1=lo:=by simp
  have e2:(((hi-lo).toNat:Nat):Int)-((0:Nat):Int)=Builtin.Range.rangeSize lo hi 1:=by rw [rangeSize_one];split <;> omega
  show IsRangeIter _ _ (lo+((0:Nat):Int) * 1) ((((hi-lo).toNat:Nat):Int)-((0:Nat):Int)) 1
  rw [e1,e2]
  exact Heap.get?_push_size _ rfl
 ·have e:b=(s.heap.push { cls:=.type "range",data:=.fields #[.int lo t,.int hi u,.int 1 v] }).objs.size:=by simpa using hb
  subst e
  exact I1.fpOk (Nat.le_refl _) (I1.hok.fresh (Nat.le_refl _))
def iRng1 (ta:TA):TI:=fun σ H R=>ta σ H fun vs H1=>∃j:Int,vs=[.int j]∧-(2 ^ 62)≤j∧j<2 ^ 62∧R (Itr 0 j.toNat) H1
def iRng2 (ta:TA):TI:=fun σ H R=>ta σ H fun vs H1=>∃i j:Int,vs=[.int i,.int j]∧(-(2 ^ 62)≤i∧i<2 ^ 62∧-(2 ^ 62)≤j∧j<2 ^ 62)∧R (Itr i (j-i).toNat) H1
theorem iC {a:Expr} {ta:TA} {p pos:Pos} (hg:Gl X "range") (hm:X.mg "range"=none) (ha:PA X [a] ta) (hs:starEach [a] X.env=[(false,eval a X.env)]:=by rfl):PI X tg (.Call (.Name "range" p) [a] [] pos) (iRng1 ta):=by
 intro pins s σ H R I h
 refine Call_ (iZ I hg hm boot_range (PyProof.Rows.callWith_type1 (thn (ha pos pins s σ H _ I h) fun us s1 ⟨vs,H1,I1,r1,q1⟩=>?_) hs rfl))
 obtain⟨j,e,q1,q2,q⟩:=q1
 subst e
 cases r1 with
 | cons r rr=>
  cases rr
  obtain⟨t,rfl⟩:=r
  exact call_range_1 (vJ I1 (by omega) (by omega) q1 q2 (by simpa using q))
theorem jK {a b:Expr} {ta:TA} {p pos:Pos} (hg:Gl X "range") (hm:X.mg "range"=none) (ha:PA X [a,b] ta) (hs:starEach [a,b] X.env=[(false,eval a X.env),(false,eval b X.env)]:=by rfl) (hs2:starEach [b] X.env=[(false,eval b X.env)]:=by rfl):
  PI X tg (.Call (.Name "range" p) [a,b] [] pos) (iRng2 ta):=by
 intro pins s σ H R I h
 refine Call_ (iZ I hg hm boot_range (PyProof.Rows.callWith_type1 (thn (ha pos pins s σ H _ I h) fun us s1 ⟨vs,H1,I1,r1,q1⟩=>?_) (by rw [hs,hs2]) (by rw [hs2];rfl)))
 obtain⟨i,j,e,⟨q1,q2,q3,q4⟩,q⟩:=q1
 subst e
 cases r1 with
 | cons r rr=>
  cases rr with
  | cons r' rr=>
   cases rr
   obtain⟨t,rfl⟩:=r
   obtain⟨t',rfl⟩:=r'
   exact call_range_2 (vJ I1 q1 q2 q3 q4 q)
def tFor (wi:TI) (g:TG) (tb:TS):TS:=fun D σ H=>wi σ H fun J H1=>∃W:Nat→Nat→St→Hp→Prop,(∃m,W 0 m σ H1)∧∀i m σ H,W i m σ H →
 (J.stop i H∧D.nx σ H)∨(J.go i H∧∃N:St→Hp→Prop,(∀ σ' H',N σ' H'→∃m',m'<m∧W (i+1) m' σ' H')∧∀x H',J.yld i H x H'→g x σ H' fun σ2 H2=>tb { D with nx:=N,ct:=N,bk:=D.nx } σ2 H2)
def eQ (fp:List Addr) (h:Heap):List (Addr × Obj):=fp.filterMap fun b=>(h.get? b).map fun o=>(b,o)
theorem dZ {fp:List Addr} {h:Heap} {b:Addr} {o:Obj} (hb:b ∈ fp) (e:h.get? b=some o):(b,o) ∈ eQ fp h:=List.mem_filterMap.mpr ⟨b,hb,by rw [e];rfl⟩
theorem AaR {fp:List Addr} {h:Heap} {p:Addr × Obj} (hp:p ∈ eQ fp h):p.1 ∈ fp∧h.get? p.1=some p.2:=by
 obtain⟨b,hb,e⟩:=List.mem_filterMap.mp hp
 cases q:h.get? b with
 | none=>rw [q] at e;cases e
 | some o=>
  rw [q] at e
  have e':(b,o)=p:=Option.some.inj e
  subst e'
  exact⟨hb,q⟩
theorem Inv.pinned {pins:List (Addr × Obj)} {σ:St} {H:Hp} {s:Shared} {fp:List Addr} (I:Inv X pins σ H s) (hf:∀b ∈ fp,iN X pins H b) (ho:∀b ∈ fp,∃o,s.heap.get? b=some o∧∀v,o.data≠.cell v):Inv X (pins++eQ fp s.heap) σ H s:=
 I.pins_of fun p hp=>(List.mem_append.mp hp).elim (fun z=>I.pin p (List.mem_append_right _ z)) fun z=>by
  obtain⟨hb,e⟩:=AaR z
  obtain⟨f0,f1,f2,_⟩:=hf p.1 hb
  obtain⟨o,e',d⟩:=ho p.1 hb
  rw [e] at e';cases e'
  exact⟨e,f0,f1,f2,d⟩
theorem Inv.unpinned {pins pl:List (Addr × Obj)} {σ:St} {H:Hp} {s:Shared} (I:Inv X (pins++pl) σ H s):Inv X pins σ H s:=I.pins_of fun p hp=>I.pin p (List.mem_append_right _ (List.mem_append_left _ hp))
theorem eG {iter:Expr} {body:List Stmt} {wi:TI} {g:TG} {tb:TS} {pos:Pos} (hp:PassesOwn (model X.prog X.w) X.A X.env X.xe) (hc:X.calm=true) (hi:PI X tg iter wi) (hg:PG X tg g) (hb:PSs X body tb)
  (hs:∀x,foldedSetIterable iter X.env x=pure x:=by intro _;rfl):PS X (.For tg iter body [] pos) (tFor wi g tb):=by
 intro pins s σ H D I h
 refine wpAny_For (thn (hi pins s σ H _ I h) fun v s1 h1=>thn h1 fun itv s2 h2=>?_) hs
 obtain⟨it,fp,tn,J,H2,e,I2,T,st2,f2,W,⟨m0,w0⟩,turn⟩:=h2
 subst e
 have stat:∀{H':Hp},(∀b ∈ fp,H' b=none)→∀b ∈ fp,iN X pins H' b:=fun hn b hb=>⟨hn b hb,(f2 b hb).2⟩
 refine codeAny_forLoop_any (fun n s'=>∃i σ' H',Inv X pins σ' H' s'∧tn i s'.heap∧(∀b ∈ fp,H' b=none)∧W i n σ' H') ?_ m0 ⟨0,σ,H2,I2,st2,fun b hb=>(f2 b hb).1,w0⟩
 rintro n s3 ⟨i,σ3,H3,I3,st3,fr3,w3⟩
 rcases turn i n σ3 H3 w3 with ⟨stop,qn⟩|⟨go,N,hN,step⟩
 ·refine wpAny_passesOwn hp (thn (T.done X rfl rfl rfl hc i pins s3 σ3 H3 X.xe I3 (stat fr3) st3 stop) fun r s4 ⟨hr,I4⟩=>?_)
  subst hr
  exact wpAny_execs_nil ⟨σ3,H3,I4,qn⟩
 ·refine wpAny_passesOwn hp (thn (T.item X rfl rfl rfl hc i pins s3 σ3 H3 X.xe I3 (stat fr3) st3 go) fun r s4 ⟨u,hr,h4⟩=>?_)
  subst hr
  refine wpAny_passesOwn hp (thn h4 fun _ s5 ⟨x,H5,I5,r5,y5,st5,fr5⟩=>?_)
  have I5':=I5.pinned (stat fr5) (T.obj _ _ st5)
  refine wpAny_passesOwn hp (thn (hg _ s5 σ3 H5 x u _ I5' r5 (step x H5 y5)) fun _ s6 ⟨σ6,H6,I6,q6⟩=>?_)
  refine wpAny_passesOwn hp (thn (hb _ s6 σ6 H6 _ I6 q6) fun f s7 q7=>?_)
  have again:∀{σ7:St} {H7:Hp},Inv X (pins++eQ fp s5.heap) σ7 H7 s7→N σ7 H7→∃m,m<n∧∃i σ' H',Inv X pins σ' H' s7∧tn i s7.heap∧(∀b ∈ fp,H' b=none)∧W i m σ' H':=fun {σ7 H7} I7 n7=>by
   obtain⟨m',hm,w7⟩:=hN σ7 H7 n7
   refine⟨m',hm,i+1,σ7,H7,I7.unpinned,T.keep _ _ _ st5 fun b hb o e=>(I7.pin (b,o) (List.mem_append_right _ (List.mem_append_right _ (dZ hb e)))).1,fun b hb=>?_,w7⟩
   obtain⟨o,e,d⟩:=T.obj _ _ st5 b hb
   exact(I7.pin (b,o) (List.mem_append_right _ (List.mem_append_right _ (dZ hb e)))).2.1
  cases f with
  | next=>obtain⟨σ7,H7,I7,n7⟩:=q7;exact again I7 n7
  | cont=>obtain⟨σ7,H7,I7,n7⟩:=q7;exact again I7 n7
  | brk=>obtain⟨σ7,H7,I7,q7⟩:=q7;exact⟨σ7,H7,I7.unpinned,q7⟩
  | ret v=>obtain⟨x7,σ7,H7,I7,r7,q7⟩:=q7;exact⟨x7,σ7,H7,I7.unpinned,r7,q7⟩
end
theorem wG {K:PySem.W.Frag} {a:Addr} {xs:List V} {g:TG} {tb:TS} {D:jT} {σ:St} {H:Hp} (Pv:Nat→St→Hp→Prop) (h0:Pv 0 σ H) (hl:∀i σ H,i≤xs.length→Pv i σ H→SqL K H a xs)
  (hs:∀i x σ H,xs[i]?=some x→Pv i σ H→g x σ H fun σ2 H2=>tb { D with nx:=Pv (i+1),ct:=Pv (i+1),bk:=D.nx } σ2 H2) (hd:∀ σ H,Pv xs.length σ H→D.nx σ H):
  ∃W:Nat→Nat→St→Hp→Prop,(∃m,W 0 m σ H)∧∀i m σ H,W i m σ H →
   ((Itl K a).stop i H∧D.nx σ H)∨((Itl K a).go i H∧∃N:St→Hp→Prop,(∀ σ' H',N σ' H'→∃m',m'<m∧W (i+1) m' σ' H')∧∀x H',(Itl K a).yld i H x H'→g x σ H' fun σ2 H2=>tb { D with nx:=N,ct:=N,bk:=D.nx } σ2 H2):=by
 refine⟨fun i m σ H=>m=xs.length-i∧i≤xs.length∧Pv i σ H,⟨xs.length,by simp,Nat.zero_le _,h0⟩,?_⟩
 rintro i m σ H ⟨rfl,hi,p⟩
 have q:=hl i σ H hi p
 by_cases hlt:i<xs.length
 ·refine .inr ⟨⟨xs,xs[i],q,by simp [hlt]⟩,Pv (i+1),fun σ' H' p'=>⟨xs.length-(i+1),by omega,rfl,hlt,p'⟩,fun x H' y=>?_⟩
  obtain⟨e,y⟩:=y
  subst e
  exact hs i x σ _ (y xs q) p
 ·have e:i=xs.length:=by omega
  subst e
  exact .inl ⟨⟨xs,q,Nat.le_refl _⟩,hd σ H p⟩
theorem jQ {K:PySem.W.Frag} {a:Addr} {xs:List V} {g:TG} {tb:TS} {D:jT} {σ:St} {H:Hp} (Pv:Nat→St→Hp→Prop) (h0:Pv 0 σ H) (hl:∀i σ H,i≤xs.length→Pv i σ H→SqT K H a xs)
  (hs:∀i x σ H,xs[i]?=some x→Pv i σ H→g x σ H fun σ2 H2=>tb { D with nx:=Pv (i+1),ct:=Pv (i+1),bk:=D.nx } σ2 H2) (hd:∀ σ H,Pv xs.length σ H→D.nx σ H):
  ∃W:Nat→Nat→St→Hp→Prop,(∃m,W 0 m σ H)∧∀i m σ H,W i m σ H →
   ((Itt K a).stop i H∧D.nx σ H)∨((Itt K a).go i H∧∃N:St→Hp→Prop,(∀ σ' H',N σ' H'→∃m',m'<m∧W (i+1) m' σ' H')∧∀x H',(Itt K a).yld i H x H'→g x σ H' fun σ2 H2=>tb { D with nx:=N,ct:=N,bk:=D.nx } σ2 H2):=by
 refine⟨fun i m σ H=>m=xs.length-i∧i≤xs.length∧Pv i σ H,⟨xs.length,by simp,Nat.zero_le _,h0⟩,?_⟩
 rintro i m σ H ⟨rfl,hi,p⟩
 have q:=hl i σ H hi p
 by_cases hlt:i<xs.length
 ·refine .inr ⟨⟨xs,xs[i],q,by simp [hlt]⟩,Pv (i+1),fun σ' H' p'=>⟨xs.length-(i+1),by omega,rfl,hlt,p'⟩,fun x H' y=>?_⟩
  obtain⟨e,y⟩:=y
  subst e
  exact hs i x σ _ (y xs q) p
 ·have e:i=xs.length:=by omega
  subst e
  exact .inl ⟨⟨xs,q,Nat.le_refl _⟩,hd σ H p⟩
theorem iE {lo:Int} {n:Nat} {g:TG} {tb:TS} {D:jT} {σ:St} {H:Hp} (Pv:Nat→St→Hp→Prop) (h0:Pv 0 σ H)
  (hs:∀i σ H,i<n→Pv i σ H→g (.int (lo+i)) σ H fun σ2 H2=>tb { D with nx:=Pv (i+1),ct:=Pv (i+1),bk:=D.nx } σ2 H2) (hd:∀ σ H,Pv n σ H→D.nx σ H):
  ∃W:Nat→Nat→St→Hp→Prop,(∃m,W 0 m σ H)∧∀i m σ H,W i m σ H →
   ((Itr lo n).stop i H∧D.nx σ H)∨((Itr lo n).go i H∧∃N:St→Hp→Prop,(∀ σ' H',N σ' H'→∃m',m'<m∧W (i+1) m' σ' H')∧∀x H',(Itr lo n).yld i H x H'→g x σ H' fun σ2 H2=>tb { D with nx:=N,ct:=N,bk:=D.nx } σ2 H2):=by
 refine⟨fun i m σ H=>m=n-i∧i≤n∧Pv i σ H,⟨n,by simp,Nat.zero_le _,h0⟩,?_⟩
 rintro i m σ H ⟨rfl,hi,p⟩
 by_cases hlt:i<n
 ·refine .inr ⟨hlt,Pv (i+1),fun σ' H' p'=>⟨n-(i+1),by omega,rfl,hlt,p'⟩,fun x H' y=>?_⟩
  obtain⟨e,y⟩:=y
  subst e y
  exact hs i σ _ hlt p
 ·have e:i=n:=by omega
  subst e
  exact .inl ⟨Nat.le_refl _,hd σ H p⟩
theorem pH {c:TT} {tb:TS} {D:jT} {σ:St} {H:Hp} (Pv:St→Hp→Prop) (μ:St→Hp→Nat) (h0:Pv σ H)
  (hs:∀ σ H,Pv σ H→c σ H fun b H1=>if b=true then tb { D with nx:=fun σ' H'=>Pv σ' H'∧μ σ' H'<μ σ H,ct:=fun σ' H'=>Pv σ' H'∧μ σ' H'<μ σ H,bk:=D.nx } σ H1 else D.nx σ H1)
  (mono:∀ σ H Q Q',(∀b H1,Q b H1→Q' b H1)→c σ H Q→c σ H Q'):AbV c tb D σ H:=by
 refine⟨fun m σ H=>m=μ σ H∧Pv σ H,⟨_,rfl,h0⟩,?_⟩
 rintro m σ H ⟨rfl,p⟩
 refine mono σ H _ _ (fun b H1 q=>?_) (hs σ H p)
 cases b with
 | true=>exact⟨_,fun σ' H' ⟨p',l⟩=>⟨_,l,rfl,p'⟩,q⟩
 | false=>exact q
abbrev R2:=V→V→Hp→VK→Prop
def OpR (X:Cx) (f:Value→Value→Sem Value) (r:R2):Prop:=
 ∀(pins:List (Addr × Obj)) (s:Shared) (σ:St) (H:Hp) (x y:V) (v u:Value) (Q:VK),Inv X pins σ H s→cH x v→cH y u→r x y H Q →
  wpAny (model X.prog X.w) X.A (f v u) (EP X pins σ Q) X.xe s
def UnR (X:Cx) (f:Value→Sem Value) (r:V→Hp→VK→Prop):Prop:=
 ∀(pins:List (Addr × Obj)) (s:Shared) (σ:St) (H:Hp) (x:V) (v:Value) (Q:VK),Inv X pins σ H s→cH x v→r x H Q →
  wpAny (model X.prog X.w) X.A (f v) (EP X pins σ Q) X.xe s
def gP (X:Cx) (f:Value) (r:List V→Hp→VK→Prop):Prop:=
 ∀(pins:List (Addr × Obj)) (s:Shared) (σ:St) (H:Hp) (xs:List V) (us:List Value) (Q:VK),Inv X pins σ H s→cB xs us→r xs H Q →
  wpAny (model X.prog X.w) X.A (call f us) (EP X pins σ Q) X.xe s
def TruR (X:Cx) (r:V→Hp→(Bool→Hp→Prop)→Prop):Prop:=
 ∀(pins:List (Addr × Obj)) (s:Shared) (σ:St) (H:Hp) (x:V) (v:Value) (Q:Bool→Hp→Prop),Inv X pins σ H s→cH x v→r x H Q →
  wpAny (model X.prog X.w) X.A (truthy v) (TP X pins σ Q) X.xe s
def tOp (r:R2) (ta tb:TE):TE:=fun σ H Q=>ta σ H fun x H1=>tb σ H1 fun y H2=>r x y H2 Q
def tUn (r:V→Hp→VK→Prop) (ta:TE):TE:=fun σ H Q=>ta σ H fun x H1=>r x H1 Q
def rI (C:Int→Int→Prop) (g:Int→Int→V):R2:=fun x y H Q=>∃i j,x=.int i∧y=.int j∧C i j∧Q (g i j) H
def rI0 (g:Int→Int→V):R2:=fun x y H Q=>∃i j,x=.int i∧y=.int j∧Q (g i j) H
def rU (g:Int→V):V→Hp→VK→Prop:=fun x H Q=>∃i,x=.int i∧Q (g i) H
section
variable {X:Cx} {a b c:Expr} {ta tb tc:TE} {pos:Pos}
theorem binT (ha:PE X a ta) (hb:PE X b tb) {pins:List (Addr × Obj)} {s:Shared} {σ:St} {H:Hp} {R:V→V→Hp→Prop} (I:Inv X pins σ H s)
  (h:ta σ H fun x H1=>tb σ H1 fun y H2=>R x y H2) {Q:Value→Shared→Prop} {f:Value→Value→Sem Value}
  (hf:∀v u s2 x y H2,Inv X pins σ H2 s2→cH x v→cH y u→R x y H2→wpAny (model X.prog X.w) X.A (f v u) Q X.xe s2):
  wpAny (model X.prog X.w) X.A (eval a X.env) (fun v s₁=>wpAny (model X.prog X.w) X.A (eval b X.env) (fun u s₂=>wpAny (model X.prog X.w) X.A (f v u) Q X.xe s₂) X.xe s₁) X.xe s:=by
 refine thn (ha pins s σ H _ I h) fun v s1 ⟨x,H1,I1,r1,q1⟩=>?_
 refine thn (hb pins s1 σ H1 _ I1 q1) fun u s2 ⟨y,H2,I2,r2,q2⟩=>?_
 exact hf v u s2 x y H2 I2 r1 r2 q2
theorem aS {op:Operator} {r:R2} (ho:OpR X (binaryOp op) r) (ha:PE X a ta) (hb:PE X b tb):PE X (.BinOp a op b pos) (tOp r ta tb):=by
 intro pins s σ H Q I h
 exact wpAny_BinOp (binT ha hb I h fun v u s2 x y H2 I2 rx ry q=>ho pins s2 σ H2 x y v u Q I2 rx ry q)
theorem oB {op:UnaryOp} {r:V→Hp→VK→Prop} (ho:UnR X (unaryOp op) r) (ha:PE X a ta):PE X (.UnaryOp op a pos) (tUn r ta):=by
 intro pins s σ H Q I h
 exact UnaryOp_ (thn (ha pins s σ H _ I h) fun v s1 ⟨x,H1,I1,r1,q1⟩=>ho pins s1 σ H1 x v Q I1 r1 q1)
theorem opI {f:Value→Value→Sem Value} {C:Int→Int→Prop} {g:Int→Int→Int}
  (rule:∀(i j:Int) (t u:Tok) (s:Shared) (Q:Value→Shared→Prop) (E:Value→Shared→Prop),C i j→Q (.int (g i j) s.toks) { s with toks:=s.toks+1 }→wpAny (model X.prog X.w) X.A (f (.int i t) (.int j u)) Q E s):
  OpR X f (rI C fun i j=>.int (g i j)):=by
 intro pins s σ H x y v u Q I rx ry h
 obtain⟨i,j,rfl,rfl,hc,q⟩:=h
 obtain⟨t,rfl⟩:=rx
 obtain⟨t',rfl⟩:=ry
 exact rule i j t t' s _ _ hc ⟨.int (g i j),H,I.tok _,⟨_,rfl⟩,q⟩
theorem opI0 {f:Value→Value→Sem Value} {g:Int→Int→Int}
  (rule:∀(i j:Int) (t u:Tok) (s:Shared) (Q:Value→Shared→Prop) (E:Value→Shared→Prop),Q (.int (g i j) s.toks) { s with toks:=s.toks+1 }→wpAny (model X.prog X.w) X.A (f (.int i t) (.int j u)) Q E s):
  OpR X f (rI0 fun i j=>.int (g i j)):=by
 intro pins s σ H x y v u Q I rx ry h
 obtain⟨i,j,rfl,rfl,q⟩:=h
 obtain⟨t,rfl⟩:=rx
 obtain⟨t',rfl⟩:=ry
 exact rule i j t t' s _ _ ⟨.int (g i j),H,I.tok _,⟨_,rfl⟩,q⟩
theorem opB0 {f:Value→Value→Sem Value} {g:Int→Int→Bool}
  (rule:∀(i j:Int) (t u:Tok) (s:Shared) (Q:Value→Shared→Prop) (E:Value→Shared→Prop),Q (.bool (g i j)) s→wpAny (model X.prog X.w) X.A (f (.int i t) (.int j u)) Q E s):
  OpR X f (rI0 fun i j=>.bl (g i j)):=by
 intro pins s σ H x y v u Q I rx ry h
 obtain⟨i,j,rfl,rfl,q⟩:=h
 obtain⟨t,rfl⟩:=rx
 obtain⟨t',rfl⟩:=ry
 exact rule i j t t' s _ _ ⟨.bl (g i j),H,I,rfl,q⟩
def CDiv (i j:Int):Prop:=0<j∧j<1073741824
def CPow (i j:Int):Prop:=0≤j∧j≤1000000∧i.natAbs<2 ^ 64
def CMul (i j:Int):Prop:=(-(2 ^ 64)<i∧i<2 ^ 64)∨(-(2 ^ 64)<j∧j<2 ^ 64)
theorem CMul.ok {i j:Int} (h:CMul i j):IntMulOk i j:=by
 rcases h with ⟨h1,h2⟩|⟨h1,h2⟩
 ·exact .of_left (intBits_le_64 h1 h2)
 ·exact .of_right (intBits_le_64 h1 h2)
theorem cQ:OpR X (binaryOp .Add) (rI0 fun i j=>.int (i+j)):=opI0 fun _ _ _ _ _ _ _ q=>add_int q
theorem gC:OpR X (binaryOp .Sub) (rI0 fun i j=>.int (i-j)):=opI0 fun _ _ _ _ _ _ _ q=>sub_int q
theorem iW:OpR X (binaryOp .Mult) (rI CMul fun i j=>.int (i * j)):=opI fun _ _ _ _ _ _ _ hc q=>mul_int q hc.ok
theorem oZ:OpR X (binaryOp .FloorDiv) (rI CDiv fun i j=>.int (i / j)):=opI fun i j _ _ _ _ _ hc q=>by
 have h1:(0:Int)<j:=hc.1
 have h2:j<1073741824:=hc.2
 exact floordiv_int (by omega) (by rw [Int.fdiv_eq_ediv_of_nonneg i (by omega)];exact q) (.inl (PyProof.noPylong_small (by omega)))
theorem dH:OpR X (binaryOp .Mod) (rI (fun _ j=>0<j) fun i j=>.int (i % j)):=opI fun i j _ _ _ _ _ hc q=>by
 have h1:(0:Int)<j:=hc
 exact mod_int' (by omega) (by rw [Int.fmod_eq_emod_of_nonneg i (by omega)];exact q)
theorem fE:OpR X (binaryOp .Pow) (rI CPow fun i j=>.int (i ^ j.toNat)):=opI fun _ _ _ _ _ _ _ hc q=>pow_int_small hc.1 hc.2.1 hc.2.2 q
theorem unI {f:Value→Sem Value} {g:Int→Int}
  (rule:∀(i:Int) (t:Tok) (s:Shared) (Q:Value→Shared→Prop) (E:Value→Shared→Prop),Q (.int (g i) s.toks) { s with toks:=s.toks+1 }→wpAny (model X.prog X.w) X.A (f (.int i t)) Q E s):
  UnR X f (rU fun i=>.int (g i)):=by
 intro pins s σ H x v Q I rx h
 obtain⟨i,rfl,q⟩:=h
 obtain⟨t,rfl⟩:=rx
 exact rule i t s _ _ ⟨.int (g i),H,I.tok _,⟨_,rfl⟩,q⟩
theorem iQ:UnR X (unaryOp .USub) (rU fun i=>.int (-i)):=unI fun _ _ _ _ _ q=>neg_int q
end
def scal:V→V→Bool
 | .non,.non=>true | .non,.int _=>true | .int _,.non=>true | .non,.bl _=>true | .bl _,.non=>true | .non,.str _=>true | .str _,.non=>true
 | .int _,.int _=>true | .bl _,.bl _=>true | .str _,.str _=>true | .byt _,.byt _=>true
 | .int _,.str _=>true | .str _,.int _=>true | .bl _,.str _=>true | .str _,.bl _=>true
 | _,_=>false
def rEq:R2:=fun x y H Q=>scal x y=true∧Q (.bl (decide (x=y))) H
def rNe:R2:=fun x y H Q=>scal x y=true∧Q (.bl (!decide (x=y))) H
theorem pE {i j:Int}:decide (V.int i=V.int j)=(i == j):=by
 rw [Bool.eq_iff_iff]
 simp
theorem AeH {i j:Bool}:decide (V.bl i=V.bl j)=(i == j):=by
 rw [Bool.eq_iff_iff]
 simp
theorem zN {i j:Str}:decide (V.str i=V.str j)=(i == j):=by
 rw [Bool.eq_iff_iff]
 simp
theorem zO {i j:Array UInt8}:decide (V.byt i=V.byt j)=(i.toList == j.toList):=by
 rw [Bool.eq_iff_iff]
 cases i
 cases j
 simp
section
variable {X:Cx} {a b c:Expr} {ta tb tc:TE} {pos:Pos}
theorem cM {pins:List (Addr × Obj)} {σ:St} {H:Hp} {s:Shared} {Q:VK} {k k':Bool} (I:Inv X pins σ H s) (q:Q (.bl k) H) (e:k=k'):EP X pins σ Q (.bool k') s:=by
 subst e
 exact⟨.bl k,H,I,rfl,q⟩
theorem vQ:OpR X (compareOp .Eq) rEq:=by
 intro pins s σ H x y v u Q I rx ry h
 obtain⟨hs,q⟩:=h
 cases x with
 | non=>
  cases rx
  cases y with
  | non=>cases ry;exact PySem.EqNone.eq_none_none (cM I q (by simp))
  | bl j=>cases ry;exact PySem.EqNone.eq_none_bool (cM I q (by simp))
  | int j=>obtain⟨t',rfl⟩:=ry;exact PySem.EqNone.eq_none_int (cM I q (by simp))
  | str j=>obtain⟨t',rfl⟩:=ry;exact PySem.EqNone.eq_none_str (cM I q (by simp))
  | _=>exact absurd (show false=true from hs) Bool.false_ne_true
 | bl i=>
  cases rx
  cases y with
  | non=>cases ry;exact PySem.EqNone.eq_bool_none (cM I q (by simp))
  | bl j=>cases ry;exact eq_bool (cM I q AeH)
  | str j=>obtain⟨t',rfl⟩:=ry;exact PySem.EqMixed.eq_bool_str (cM I q (by simp))
  | _=>exact absurd (show false=true from hs) Bool.false_ne_true
 | int i=>
  obtain⟨t,rfl⟩:=rx
  cases y with
  | non=>cases ry;exact PySem.EqNone.eq_int_none (cM I q (by simp))
  | int j=>obtain⟨t',rfl⟩:=ry;exact eq_int (cM I q pE)
  | str j=>obtain⟨t',rfl⟩:=ry;exact PySem.EqMixed.eq_int_str (cM I q (by simp))
  | _=>exact absurd (show false=true from hs) Bool.false_ne_true
 | str i=>
  obtain⟨t,rfl⟩:=rx
  cases y with
  | non=>cases ry;exact PySem.EqNone.eq_str_none (cM I q (by simp))
  | bl j=>cases ry;exact PySem.EqMixed.eq_str_bool (cM I q (by simp))
  | int j=>obtain⟨t',rfl⟩:=ry;exact PySem.EqMixed.eq_str_int (cM I q (by simp))
  | str j=>obtain⟨t',rfl⟩:=ry;exact eq_str (cM I q zN)
  | _=>exact absurd (show false=true from hs) Bool.false_ne_true
 | byt i=>
  obtain⟨t,rfl⟩:=rx
  cases y with
  | byt j=>obtain⟨t',rfl⟩:=ry;exact PySem.W.eq_bytes (cM I q zO)
  | _=>exact absurd (show false=true from hs) Bool.false_ne_true
 | _=>cases y <;> exact absurd (show false=true from hs) Bool.false_ne_true
theorem vO:OpR X (compareOp .NotEq) rNe:=by
 intro pins s σ H x y v u Q I rx ry h
 obtain⟨hs,q⟩:=h
 cases x with
 | non=>
  cases rx
  cases y with
  | non=>cases ry;exact PySem.EqNone.ne_none_none (cM I q (by simp))
  | bl j=>cases ry;exact PySem.EqNone.ne_none_bool (cM I q (by simp))
  | int j=>obtain⟨t',rfl⟩:=ry;exact PySem.EqNone.ne_none_int (cM I q (by simp))
  | str j=>obtain⟨t',rfl⟩:=ry;exact PySem.EqNone.ne_none_str (cM I q (by simp))
  | _=>exact absurd (show false=true from hs) Bool.false_ne_true
 | bl i=>
  cases rx
  cases y with
  | non=>cases ry;exact PySem.EqNone.ne_bool_none (cM I q (by simp))
  | bl j=>cases ry;exact ne_bool (cM I q (congrArg not AeH))
  | str j=>obtain⟨t',rfl⟩:=ry;exact PySem.EqMixed.ne_bool_str (cM I q (by simp))
  | _=>exact absurd (show false=true from hs) Bool.false_ne_true
 | int i=>
  obtain⟨t,rfl⟩:=rx
  cases y with
  | non=>cases ry;exact PySem.EqNone.ne_int_none (cM I q (by simp))
  | int j=>obtain⟨t',rfl⟩:=ry;exact ne_int (cM I q (congrArg not pE))
  | str j=>obtain⟨t',rfl⟩:=ry;exact PySem.EqMixed.ne_int_str (cM I q (by simp))
  | _=>exact absurd (show false=true from hs) Bool.false_ne_true
 | str i=>
  obtain⟨t,rfl⟩:=rx
  cases y with
  | non=>cases ry;exact PySem.EqNone.ne_str_none (cM I q (by simp))
  | bl j=>cases ry;exact PySem.EqMixed.ne_str_bool (cM I q (by simp))
  | int j=>obtain⟨t',rfl⟩:=ry;exact PySem.EqMixed.ne_str_int (cM I q (by simp))
  | str j=>obtain⟨t',rfl⟩:=ry;exact ne_str (cM I q (congrArg not zN))
  | _=>exact absurd (show false=true from hs) Bool.false_ne_true
 | byt i=>
  obtain⟨t,rfl⟩:=rx
  cases y with
  | byt j=>obtain⟨t',rfl⟩:=ry;exact PySem.W.ne_bytes (cM I q (congrArg not zO))
  | _=>exact absurd (show false=true from hs) Bool.false_ne_true
 | _=>cases y <;> exact absurd (show false=true from hs) Bool.false_ne_true
theorem eU:OpR X (compareOp .Lt) (rI0 fun i j=>.bl (decide (i<j))):=opB0 fun _ _ _ _ _ _ _ q=>lt_int q
theorem lH:OpR X (compareOp .LtE) (rI0 fun i j=>.bl (decide (i≤j))):=opB0 fun _ _ _ _ _ _ _ q=>le_int q
theorem op_gt:OpR X (compareOp .Gt) (rI0 fun i j=>.bl (decide (j<i))):=opB0 fun _ _ _ _ _ _ _ q=>gt_int q
theorem op_ge:OpR X (compareOp .GtE) (rI0 fun i j=>.bl (decide (j≤i))):=opB0 fun _ _ _ _ _ _ _ q=>ge_int q
theorem op_isN:OpR X (compareOp .Is) (fun x y H Q=>y=.non∧Q (.bl (decide (x=.non))) H):=by
 intro pins s σ H x y v u Q I rx ry h
 obtain⟨rfl,q⟩:=h
 cases ry
 refine is_none_gen (cM I q ?_)
 cases x <;> first
  | (cases rx;rfl)
  | (obtain⟨t,rfl⟩:=rx;rfl)
theorem op_notN:OpR X (compareOp .IsNot) (fun x y H Q=>y=.non∧Q (.bl (!decide (x=.non))) H):=by
 intro pins s σ H x y v u Q I rx ry h
 obtain⟨rfl,q⟩:=h
 cases ry
 refine isnot_none_gen (cM I q ?_)
 cases x <;> first
  | (cases rx;rfl)
  | (obtain⟨t,rfl⟩:=rx;rfl)
theorem cA (b:Expr) {op:CmpOp} (h:op≠.In:=by decide) (h2:op≠.NotIn:=by decide):behindInMarks op b=false:=by
 have e1:(op == CmpOp.In)=false:=by cases op <;> first|rfl|exact absurd rfl h
 have e2:(op == CmpOp.NotIn)=false:=by cases op <;> first|rfl|exact absurd rfl h2
 cases b <;> simp [behindInMarks,e1,e2]
theorem fU {op:CmpOp} {r:R2} (ho:OpR X (compareOp op) r) (ha:PE X a ta) (hb:PE X b tb) (hm:behindInMarks op b=false):PE X (.Compare a [op] [b] pos) (tOp r ta tb):=by
 intro pins s σ H Q I h
 exact wpAny_Compare1 (binT ha hb I h fun v u s2 x y H2 I2 rx ry q=>ho pins s2 σ H2 x y v u Q I2 rx ry q) hm
def tTest (t:TE):TT:=fun σ H Q=>t σ H fun x H'=>∃k,x=.bl k∧Q k H'
theorem bZ {op:CmpOp} {r:R2} (ho:OpR X (compareOp op) r) (ha:PE X a ta) (hb:PE X b tb) (hm:behindInMarks op b=false):PT X (.Compare a [op] [b] pos) (tTest (tOp r ta tb)):=by
 intro pins s σ H Q I h
 refine wpAny_isTrue_Compare1 (thn (ha pins s σ H _ I h) fun v s1 ⟨x,H1,I1,r1,q1⟩=>thn (hb pins s1 σ H1 _ I1 q1) fun u s2 ⟨y,H2,I2,r2,q2⟩=>
  thn (ho pins s2 σ H2 x y v u _ I2 r1 r2 q2) fun c s3 ⟨z,H3,I3,r3,k,e,q3⟩=>?_) hm
 subst e
 cases r3
 exact wpAny_truthy_bool ⟨H3,I3,q3⟩
def AbY (r r':R2) (ta tb tc:TE):TE:=fun σ H Q=>ta σ H fun x H1=>tb σ H1 fun y H2=>r x y H2 fun z H3=>∃k,z=.bl k ∧
 (if k=true then tc σ H3 fun w' H4=>r' y w' H4 Q else Q (.bl false) H3)
theorem AcV {op op':CmpOp} {r r':R2} (ho:OpR X (compareOp op) r) (ho':OpR X (compareOp op') r') (ha:PE X a ta) (hb:PE X b tb) (hc:PE X c tc)
  (hm:lastMarks [op,op'] [b,c]=false:=by with_unfolding_all rfl):PE X (.Compare a [op,op'] [b,c] pos) (AbY r r' ta tb tc):=by
 intro pins s σ H Q I h
 refine Compare_chain (thn (ha pins s σ H _ I h) fun v s1 ⟨x,H1,I1,r1,q1⟩=>chain_link (thn (hb pins s1 σ H1 _ I1 q1) fun u s2 ⟨y,H2,I2,r2,q2⟩=>
  thn (ho pins s2 σ H2 x y v u _ I2 r1 r2 q2) fun d s3 ⟨z,H3,I3,r3,k,e,q3⟩=>?_)) hm
 subst e
 cases r3
 refine wpAny_truthy_bool ?_
 cases k with
 | false=>exact ite_ff ⟨.bl false,H3,I3,rfl,q3⟩
 | true=>exact ite_tt (chain_last (thn (hc pins s3 σ H3 _ I3 q3) fun w' s4 ⟨z',H4,I4,r4,q4⟩=>ho' pins s4 σ H4 y z' u w' Q I4 r2 r4 q4))
theorem qE {op op':CmpOp} {r r':R2} (ho:OpR X (compareOp op) r) (ho':OpR X (compareOp op') r') (ha:PE X a ta) (hb:PE X b tb) (hc:PE X c tc)
  (hm:lastMarks [op,op'] [b,c]=false:=by with_unfolding_all rfl):PT X (.Compare a [op,op'] [b,c] pos) (tTest (AbY r r' ta tb tc)):=by
 intro pins s σ H Q I h
 refine isTrue_chain (thn (ha pins s σ H _ I h) fun v s1 ⟨x,H1,I1,r1,q1⟩=>test_link (thn (hb pins s1 σ H1 _ I1 q1) fun u s2 ⟨y,H2,I2,r2,q2⟩=>
  thn (ho pins s2 σ H2 x y v u _ I2 r1 r2 q2) fun d s3 ⟨z,H3,I3,r3,k,e,q3⟩=>?_)) hm
 subst e
 cases r3
 refine wpAny_truthy_bool ?_
 cases k with
 | false=>
  obtain⟨k',e',q'⟩:=q3
  cases e'
  exact ite_ff ⟨H3,I3,q'⟩
 | true=>
  refine ite_tt (test_last (thn (hc pins s3 σ H3 _ I3 q3) fun w' s4 ⟨z',H4,I4,r4,q4⟩=>thn (ho' pins s4 σ H4 y z' u w' _ I4 r2 r4 q4) fun d' s5 ⟨z2,H5,I5,r5,k2,e2,q5⟩=>?_))
  subst e2
  cases r5
  exact wpAny_truthy_bool ⟨H5,I5,q5⟩
def TruV (K:PySem.W.Frag) (x:V) (H:Hp) (k:Bool):Prop:=
 match x with
 | .non=>k=false
 | .bl b=>k=b
 | .int i=>k=(i != 0)
 | .str y=>y.length≤sizeLine∧k=((y.length:Int) != 0)
 | .byt y=>y.size≤sizeLine∧k=((y.size:Int) != 0)
 | .ref p=>(∃xs,SqL K H p xs∧k=!xs.isEmpty)∨(∃xs,SqT K H p xs∧k=!xs.isEmpty)∨∃kvs,H p=some (.dK kvs)∧k=!kvs.isEmpty
 | _=>False
theorem xW {κ:Type} {kvs:List (κ × V)} {vs:List (κ × Value)} (r:KV kvs vs):(!vs.isEmpty)=!kvs.isEmpty:=by
 cases r <;> rfl
theorem qV {xs:List V} {its:List Value} (r:cB xs its):(!its.toArray.isEmpty)=!xs.isEmpty:=by
 cases r <;> simp
theorem nG:(sizeLine:Nat)<2 ^ 63:=by rw [sizeLine_eq];decide
theorem tru_ok:TruR X (fun x H Q=>∃k,TruV X.K x H k∧Q k H):=by
 intro pins s σ H x v Q I rx h
 obtain⟨k,e,q⟩:=h
 have hl:=nG
 have hs:sizeLine=16777216:=sizeLine_eq
 cases x with
 | non=>
  cases rx
  have e':k=false:=e
  subst e'
  exact truthy_none ⟨H,I,q⟩
 | bl b=>
  cases rx
  have e':k=b:=e
  subst e'
  exact wpAny_truthy_bool ⟨H,I,q⟩
 | int i=>
  obtain⟨t,rfl⟩:=rx
  have e':k=(i != 0):=e
  subst e'
  exact PySem.P.truthy_int ⟨H,I,q⟩
 | str y=>
  obtain⟨t,rfl⟩:=rx
  obtain⟨hy,e'⟩:y.length≤sizeLine∧k=((y.length:Int) != 0):=e
  subst e'
  exact PySem.P.truthy_str (by omega) ⟨H,I.tok _,q⟩
 | byt y=>
  obtain⟨t,rfl⟩:=rx
  obtain⟨hy,e'⟩:y.size≤sizeLine∧k=((y.size:Int) != 0):=e
  subst e'
  exact PySem.W.truthy_bytes (by omega) ⟨H,I.tok _,q⟩
 | ref p=>
  cases rx
  have e':(∃xs,SqL X.K H p xs∧k=!xs.isEmpty)∨(∃xs,SqT X.K H p xs∧k=!xs.isEmpty)∨∃kvs,H p=some (.dK kvs)∧k=!kvs.isEmpty:=e
  rcases e' with ⟨xs,hx,e'⟩|⟨xs,hx,e'⟩|⟨kvs,hx,e'⟩
  ·subst e'
   obtain⟨its,r,pl,hz⟩:=I.list hx
   have hlen:=r.length
   exact wpAny_truthy_list pl.isList (by simp only [List.size_toArray];omega) ⟨H,I.tok _,by rw [qV r];exact q⟩
  ·subst e'
   obtain⟨its,r,pl,hz⟩:=I.tuple hx
   have hlen:=r.length
   exact truthy_tuple pl (by simp only [List.size_toArray];omega) ⟨H,I.tok _,by rw [qV r];exact q⟩
  ·subst e'
   obtain⟨hz,hS,vs,r,m⟩:kvs.length≤sizeLine∧(p == sysModules)=false∧∃vs,KV kvs vs∧s.heap.DictOf (cV X.prog X.w) p vs:=I.hok p _ hx
   have hlen:kvs.length=vs.length:=Paired.length r
   exact wpAny_truthy_dict hS m (by omega) ⟨H,I.tok _,by rw [xW r];exact q⟩
 | _=>exact(show False from e).elim
theorem qD (ha:PE X a ta) (he:∀whole,isTrue a X.env whole=(do let v ← whole;standAt a.pos;holding [v] (truthy v))):
  PT X a (fun σ H Q=>ta σ H fun x H'=>∃k,TruV X.K x H' k∧Q k H'):=by
 intro pins s σ H Q I h
 exact isTrue_plain (thn (ha pins s σ H _ I h) fun v s1 ⟨x,H1,I1,r1,q1⟩=>tru_ok pins s1 σ H1 x v Q I1 r1 q1) (he _)
theorem jV {x:V} {us:List Value} (r:cB [x] us):∃u,us=[u]∧cH x u:=by
 cases r with
 | cons r1 r2=>cases r2;exact⟨_,rfl,r1⟩
theorem vals2 {x y:V} {us:List Value} (r:cB [x,y] us):∃u w',us=[u,w']∧cH x u∧cH y w':=by
 cases r with
 | cons r1 r2=>
  cases r2 with
  | cons r3 r4=>cases r4;exact⟨_,_,rfl,r1,r3⟩
theorem AbN (hc:X.calm=true):gP X (.builtin "max") (fun xs H Q=>∃i j,xs=[.int i,.int j]∧Q (.int (if j > i then j else i)) H):=by
 intro pins s σ H xs us Q I r h
 obtain⟨i,j,rfl,q⟩:=h
 obtain⟨u,w',rfl,⟨t,rfl⟩,⟨t',rfl⟩⟩:=vals2 r
 refine max_two_ints (I.ok.hd hc) fun h' tk k=>⟨_,H,I.kept k,?_,q⟩
 by_cases hj:j > i
 ·rw [if_pos hj,if_pos hj];exact⟨_,rfl⟩
 ·rw [if_neg hj,if_neg hj];exact⟨_,rfl⟩
end
structure ObjM (h:Heap) (x dx C:Addr) (mA:Str→Option Value):Prop where
 obj:h.get? x=some (PySem.W.instObj C dx)
 ns:h.Ns1 dx mA
 ne:dx≠x
theorem AaV {h:Heap} {dx:Addr} {mA:Str→Option Value} (n:h.Ns1 dx mA):∃od,h.get? dx=some od∧∀name,PySem.W.lookIn name od=some (mA name):=by
 obtain⟨o,es,ep,ho,hd,hk,_,hm⟩:=n
 refine⟨o,ho,fun name=>?_⟩
 have e:=hm name
 unfold nsFind findBy at e
 rw [← Array.find?_toList] at e
 unfold PySem.W.lookIn
 rw [hd]
 dsimp only
 split
 ·rename_i y q
  rw [q] at e
  exact congrArg some e
 ·rename_i q
  rw [q] at e
  have a:es.toList.any (·.refKey)=false:=by
   rw [List.any_eq_false]
   intro y hy
   obtain⟨z,t,hkey⟩:=hk y (Array.mem_toList_iff.mp hy)
   simp [DictEntry.refKey,hkey]
  have a':¬ es.toList.any (·.refKey)=true:=by rw [a];exact Bool.false_ne_true
  rw [if_neg a']
  exact congrArg some e
theorem ObjM.look {h:Heap} {x dx C:Addr} {mA:Str→Option Value} (I:ObjM h x dx C mA):∃od,PySem.W.InstAt h x (PySem.W.instObj C dx) C (some od)∧∀name,PySem.W.lookIn name od=some (mA name):=
 let ⟨od,ho,hl⟩:=AaV I.ns
 ⟨od,⟨I.obj,rfl,rfl,ho⟩,hl⟩
section
variable {prog:Program} {w:World} {A:Around} {E:Value→Shared→Prop} {s:Shared} {K:PySem.W.Frag} {x dx C f:Addr} {mA:Str→Option Value} {name:Str} {v:Value}
theorem get_map {expr:Bool} {Q:Value→Shared→Prop} (X:K.In s.heap) (I:ObjM s.heap x dx C mA) (hg:PySem.W.plainGet K C name=true) (hh:PySem.W.hasDictIn K C=true)
  (ha:PySem.W.findIn K (.ref C) name=some none) (hv:mA name=some v) (hv':PySem.W.handedIn v=true) (h:Q v { s with toks:=s.toks+1 }):
  wpAny (model prog w) A (getAttr (.ref x) name expr) Q E s:=by
 obtain⟨od,J,hl⟩:=I.look
 exact PySem.W.get_value X J (PySem.W.plainGet_of hg).1 (PySem.W.findObj_own hh ha rfl (by rw [hl,hv])) hv' h
theorem AdX {pl:Sem Bool} {Q:Value × List Value→Shared→Prop} (X:K.In s.heap) (I:ObjM s.heap x dx C mA) (hg:PySem.W.plainGet K C name=true)
  (hf:PySem.W.findIn K (.ref C) name=some (some (.ref f))) (ht:PySem.W.isFn K (.ref f)=true) (hv:mA name=none) (h:Q (.ref f,[.ref x]) s):
  wpAny (model prog w) A (getMethod (.ref x) name pl) Q E s:=by
 obtain⟨od,J,hl⟩:=I.look
 exact PySem.W.method_fn X J (PySem.W.plainGet_of hg).1 (PySem.W.plainGet_of hg).2 hf (beq_iff_eq.mp ht) (by show (PySem.W.lookIn name od).map (·.isSome)=some false;rw [hl,hv];rfl) h
theorem set_map {ns:List Str} {Q:Unit→Shared→Prop} (X:K.In s.heap) (I:ObjM s.heap x dx C mA)
  (hs:PySem.W.findIn K (.ref C) "__setattr__"=some (some (.builtin "object.__setattr__"))) (hp:PySem.W.plainOver K C=true) (ht:PySem.W.takerIn K C name=some none) (hh:PySem.W.hasDictIn K C=true)
  (hw:PySem.Within mA ns) (hsz:ns.length≤sizeLine)
  (h:∀h',ObjM h' x dx C (fun y=>if y=name then some v else mA y)→Heap.SameBut dx s.heap h'→Q () { s with heap:=h',toks:=s.toks+2 }):
  wpAny (model prog w) A (setAttr (.ref x) name v) Q E s:=by
 obtain⟨od,J,hl⟩:=I.look
 refine PySem.W.set_plain X J hs (PySem.W.osa_open (s:={ s with toks:=s.toks+1 }) (r:=none) X J hp ht fun b=>?_)
 obtain⟨cd,hc,hd'⟩:=PySem.W.any_some hh
 have hx:s.heap.get? x=some ⟨.ref C,some dx,.plain,#[]⟩:=I.obj
 refine wpAny_bind (wpAny_pure (wpAny_bind (wpAny_bind (wpAny_loadPart hx (wpAny_bind (PySem.W.Looks.here (s:={ s with toks:=s.toks+1 }) (PySem.W.looks_clsIn X hc) ?_))))))
 rw [hd']
 refine wpAny_pure (a:=some dx) (wpAny_bind (wpAny_pure (wpAny_bind ?_)))
 refine wpAny_nsSet1 (s:={ s with toks:=s.toks+1 }) I.ns fun h' hn2 hs2=>?_
 obtain⟨oD,esD,epD,hoD,hdD,hcD⟩:=hn2.count (PySem.Within.cons name v hw)
 refine wpAny_bind (wpAny_lookBehind hoD (by rw [hdD];exact pastItsLine_dict (Nat.le_trans hcD (by rw [List.length_cons];omega))) ?_)
 exact wpAny_pure (h _ ⟨(hs2.2 _ (Ne.symm I.ne)).trans I.obj,hn2,I.ne⟩ hs2)
theorem AdP {R:Result→Shared→Prop} {vs:List Value} {kw:List (Str × Value)} (X:K.In s.heap) (hm:PySem.W.makesIn K C=true)
  (hi:PySem.W.findIn K (.ref C) "__init__"=some (some (.ref f))) (hf:PySem.W.typeIn K (.ref f)=some (.type "function"))
  (h:codeAny (model prog w) (A.under (.builtin "type.__call__" ⟨.ref C::vs,kw⟩)) (.call (.ref f) ⟨.ref (s.heap.objs.size+1)::vs,kw⟩) (PySem.W.InitBack (s.heap.objs.size+1) R)
   { s with heap:=(s.heap.push PySem.W.emptyDict).push (PySem.W.instObj C s.heap.objs.size) }):
  codeAny (model prog w) A (.call (.ref C) ⟨vs,kw⟩) R s:=by
 obtain⟨hh,g,d,t,os⟩:=s
 exact PySem.W.make_core (PySem.W.makes_of X hm) (PySem.W.looks_findIn X hi) (fun self=>PySem.W.bind_fn X self hf) (.inl rfl) h
end
def dC (f:Str) (v:V):List (Str × V)→List (Str × V)
 | []=>[(f,v)]
 | (g,x)::r=>if g=f then(g,v)::r else(g,x)::dC f v r
theorem eA (f g:Str) (v:V):∀fs:List (Str × V),(dC f v fs).lookup g=if g=f then some v else fs.lookup g
 | []=>by
  show List.lookup g [(f,v)]=_
  by_cases h:g=f
  ·have hb:(g == f)=true:=beq_iff_eq.mpr h
   simp only [List.lookup,hb,if_pos h]
  ·have hb:(g == f)=false:=beq_eq_false_iff_ne.mpr h
   simp only [List.lookup,hb,if_neg h]
 | (k,x)::r=>by
  have ih:=eA f g v r
  rw [show dC f v ((k,x)::r)=(if k=f then(k,v)::r else(k,x)::dC f v r) from rfl]
  by_cases hk:k=f
  ·rw [if_pos hk]
   by_cases h:g=k
   ·have hb:(g == k)=true:=beq_iff_eq.mpr h
    simp only [List.lookup,hb,if_pos (h.trans hk)]
   ·have hb:(g == k)=false:=beq_eq_false_iff_ne.mpr h
    simp only [List.lookup,hb,if_neg (fun e:g=f=>h (e.trans hk.symm))]
  ·rw [if_neg hk]
   by_cases h:g=k
   ·have hb:(g == k)=true:=beq_iff_eq.mpr h
    simp only [List.lookup,hb,if_neg (fun e:g=f=>hk (h.symm.trans e))]
   ·have hb:(g == k)=false:=beq_eq_false_iff_ne.mpr h
    simp only [List.lookup,hb]
    exact ih
theorem nJ (f:Str) (v:V):∀fs:List (Str × V),f ∈ (dC f v fs).map (·.1)∧∀g,g ∈ fs.map (·.1)→g ∈ (dC f v fs).map (·.1)
 | []=>⟨by simp [dC],fun g h=>by simp at h⟩
 | (k,x)::r=>by
  obtain⟨i1,i2⟩:=nJ f v r
  rw [show dC f v ((k,x)::r)=(if k=f then(k,v)::r else(k,x)::dC f v r) from rfl]
  by_cases hk:k=f
  ·rw [if_pos hk]
   subst hk
   exact⟨by simp,fun g h=>by simpa using h⟩
  ·rw [if_neg hk]
   refine⟨?_,fun g h=>?_⟩
   ·rw [List.map_cons]
    exact List.mem_cons_of_mem _ i1
   ·rw [List.map_cons] at h ⊢
    rcases List.mem_cons.mp h with e|e
    ·exact List.mem_cons.mpr (.inl e)
    ·exact List.mem_cons_of_mem _ (i2 g e)
theorem oK (f:Str) (v:V):∀fs:List (Str × V),(dC f v fs).length≤fs.length+1
 | []=>by simp [dC]
 | (k,x)::r=>by
  have ih:=oK f v r
  rw [show dC f v ((k,x)::r)=(if k=f then(k,v)::r else(k,x)::dC f v r) from rfl]
  by_cases hk:k=f
  ·rw [if_pos hk,List.length_cons,List.length_cons];omega
  ·rw [if_neg hk,List.length_cons,List.length_cons];omega
theorem iM.some_of {v:V} {o:Option Value} (r:iM (some v) o):∃u,o=some u∧cH v u:=by
 cases o with
 | none=>exact(show False from r).elim
 | some u=>exact⟨u,rfl,r⟩
theorem iM.none_of {o:Option Value} (r:iM none o):o=none:=by
 cases o with
 | none=>rfl
 | some u=>exact(show False from r).elim
theorem AbC {v:V} {u:Value} (r:cH v u):PySem.W.handedIn u=true:=by
 cases v with
 | non=>cases (show u=Value.none from r);rfl
 | bl b=>cases (show u=Value.bool b from r);rfl
 | int i=>obtain⟨t,e⟩:=(show ∃t,u=Value.int i t from r);cases e;rfl
 | str x=>obtain⟨t,e⟩:=(show ∃t,u=Value.str x t from r);cases e;rfl
 | byt b=>obtain⟨t,e⟩:=(show ∃t,u=Value.bytes b t from r);cases e;rfl
 | flt b=>obtain⟨t,e⟩:=(show ∃t,u=Value.float b t from r);cases e;rfl
 | ref a=>cases (show u=Value.ref a from r);rfl
 | ty n=>cases (show u=Value.type n from r);rfl
section
variable {P:Program} {w:World} {H H':Hp} {h h':Heap} {a C dx:Addr} {fs fs':List (Str × V)}
theorem pB (hok:HOk P w H h) (e:H a=some (.ins C dx fs)):∃mA,ObjM h a dx C mA∧(∀f,iM (fs.lookup f) (mA f))∧PySem.Within mA (fs.map (·.1))∧fs.length≤1000∧H dx=some (.own a):=by
 obtain⟨d,z,ne,ob,mA,n,r,q⟩:=(show cE P w H h a (.ins C dx fs) from hok a _ e)
 exact⟨mA,⟨ob,n,ne⟩,r,q,z,d⟩
end
structure Cls (K:PySem.W.Frag) (C:Addr):Prop where
 pg:PySem.W.plainGet K C Str.empty=true
 hd:PySem.W.hasDictIn K C=true
 po:PySem.W.plainOver K C=true
 sa:PySem.W.findIn K (.ref C) "__setattr__"=some (some (.builtin "object.__setattr__"))
theorem Cls.get {K:PySem.W.Frag} {C:Addr} (c:Cls K C) (f:Str):PySem.W.plainGet K C f=true:=c.pg
def dE (K:PySem.W.Frag) (C:Addr) (f:Str):Prop:=PySem.W.findIn K (.ref C) f=some none
theorem dE.taker {K:PySem.W.Frag} {C:Addr} {f:Str} (n:dE K C f):PySem.W.takerIn K C f=some none:=by
 unfold PySem.W.takerIn
 rw [show PySem.W.findIn K (.ref C) f=some none from n]
 rfl
structure cJ (K:PySem.W.Frag) (C:Addr) (m:Str) (f:Addr):Prop where
 at_:PySem.W.findIn K (.ref C) m=some (some (.ref f))
 fn:PySem.W.isFn K (.ref f)=true
 kp:PySem.W.keepIn K (.ref f)=true
section
variable {X:Cx} {pins:List (Addr × Obj)} {σ:St} {H:Hp} {s:Shared} {a C dx:Addr} {fs:List (Str × V)} {f:Str} {v:V} {A:Around} {E:Value→Shared→Prop}
theorem qY {b:Bool} {Q:Value→Shared→Prop} (I:Inv X pins σ H s) (e:H a=some (.ins C dx fs)) (c:Cls X.K C) (n:dE X.K C f) (l:fs.lookup f=some v)
  (h:∀u s',Inv X pins σ H s'→cH v u→Q u s'):wpAny (model X.prog X.w) A (getAttr (.ref a) f b) Q E s:=by
 obtain⟨mA,O,r,_,_,_⟩:=pB I.hok e
 obtain⟨u,hu,ru⟩:=iM.some_of (v:=v) (o:=mA f) (by rw [← l];exact r f)
 exact get_map I.kIn O (c.get f) c.hd n hu (AbC ru) (h u _ (I.tok _) ru)
theorem qX {m:Str} {g:Addr} {pl:Sem Bool} {Q:Value × List Value→Shared→Prop} (I:Inv X pins σ H s) (e:H a=some (.ins C dx fs)) (c:Cls X.K C) (k:cJ X.K C m g) (l:fs.lookup m=none)
  (h:Q (.ref g,[.ref a]) s):wpAny (model X.prog X.w) A (getMethod (.ref a) m pl) Q E s:=by
 obtain⟨mA,O,r,_,_,_⟩:=pB I.hok e
 have hn:mA m=none:=iM.none_of (by rw [← l];exact r m)
 exact AdX I.kIn O (c.get m) k.at_ k.fn hn h
theorem pX {y:V} {u:Value} {Q:Unit→Shared→Prop} (I:Inv X pins σ H s) (e:H a=some (.ins C dx fs)) (c:Cls X.K C) (n:dE X.K C f) (hl:fs.length<1000) (ry:cH y u)
  (h:∀s',Inv X pins σ (upd H a (.ins C dx (dC f y fs))) s'→Q () s'):wpAny (model X.prog X.w) A (setAttr (.ref a) f u) Q E s:=by
 obtain⟨mA,O,r,wi,_,ho⟩:=pB I.hok e
 have hz:(fs.map (·.1)).length≤sizeLine:=by rw [List.length_map,sizeLine_eq];omega
 refine set_map I.kIn O c.sa c.po n.taker c.hd wi hz fun h' O' sb=>h _ ?_
 have hd:∃o,h'.get? dx=some o:=let ⟨o,_,_,e',_⟩:=O'.ns;⟨o,e'⟩
 refine I.write (x:=a) (e:=dx) (by rw [e];exact True.intro) (.inr ho) (fun b q hb z=>(sb.2 b hb).trans z) hd ?_
 refine⟨by rw [aC O.ne];exact ho,?_,O.ne,O'.obj,_,O'.ns,fun g=>?_,fun g hg=>?_⟩
 ·have:=oK f y fs;omega
 ·show iM ((dC f y fs).lookup g) (if g=f then some u else mA g)
  rw [eA]
  by_cases q:g=f
  ·rw [if_pos q,if_pos q];exact ry
  ·rw [if_neg q,if_neg q];exact r g
 ·by_cases q:g=f
  ·rw [q];exact(nJ f y fs).1
  ·refine(nJ f y fs).2 g (wi g fun z=>hg ?_)
   show (if g=f then some u else mA g)=none
   rw [if_neg q];exact z
theorem Inv.made (I:Inv X pins σ H s):Inv X pins σ (upd (upd H s.heap.objs.size (.own (s.heap.objs.size+1))) (s.heap.objs.size+1) (.ins C s.heap.objs.size []))
  { s with heap:=(s.heap.push PySem.W.emptyDict).push (PySem.W.instObj C s.heap.objs.size) }:=by
 have e1:(s.heap.push PySem.W.emptyDict).get? s.heap.objs.size=some PySem.W.emptyDict:=Heap.get?_push_size s.heap rfl
 have e2:((s.heap.push PySem.W.emptyDict).push (PySem.W.instObj C s.heap.objs.size)).get? (s.heap.objs.size+1)=some (PySem.W.instObj C s.heap.objs.size):=by
  have:=Heap.get?_push_size (s.heap.push PySem.W.emptyDict) (o:=PySem.W.instObj C s.heap.objs.size) rfl
  rwa [Heap.size_push] at this
 have e3:(s.heap.push PySem.W.emptyDict).Ns s.heap.objs.size (fun _=>none):=⟨PySem.W.emptyDict,#[],_,e1,rfl,(fun e he=>absurd he (by simp)),fun _=>rfl⟩
 have I1:=I.laid (a:=s.heap.objs.size) (o:=.own (s.heap.objs.size+1)) (h':=s.heap.push PySem.W.emptyDict) (t':=s.toks) (fun b u q=>Heap.get?_push_of_some _ q) (Nat.le_refl _) ⟨_,e1⟩
 refine I1.laid (a:=s.heap.objs.size+1) (o:=.ins C s.heap.objs.size []) (t':=s.toks) (fun b u q=>Heap.get?_push_of_some _ q) (Nat.le_of_eq (Heap.size_push _ _)) ?_
 have ne:s.heap.objs.size≠s.heap.objs.size+1:=Nat.ne_of_lt (Nat.lt_succ_self _)
 refine⟨by rw [aC ne,aB],Nat.zero_le _,ne,e2,fun _=>none,(Heap.Ns1.of_empty e3).at fun o q=>Heap.get?_push_of_some _ q,fun _=>True.intro,fun y hy=>absurd rfl hy⟩
theorem attr_of {prog:Program} {w:World} {env:Env} {e:Expr} {f:Str} {pos:Pos} {s:Shared} {Q:Value→Shared→Prop} (hb:attributeBase e f env (eval e env)=eval e env)
  (h:wpAny (model prog w) A (eval e env) (fun o s₁=>wpAny (model prog w) A (getAttr o f true) Q E s₁) E s):wpAny (model prog w) A (eval (.Attribute e f pos) env) Q E s:=
 Attribute_any_ h (by rw [arm_eval_Attribute,hb])
end
def tFld (K:PySem.W.Frag) (ta:TE) (f:Str):TE:=fun σ H Q=>ta σ H fun x H1=>∃a C dx fs v,x=.ref a∧H1 a=some (.ins C dx fs)∧Cls K C∧dE K C f∧fs.lookup f=some v∧Q v H1
def sFld (K:PySem.W.Frag) (ta tv:TE) (f:Str):TS:=fun D σ H=>tv σ H fun y H1=>ta σ H1 fun x H2=>∃a C dx fs,x=.ref a∧H2 a=some (.ins C dx fs)∧Cls K C∧dE K C f∧fs.length<1000 ∧
 D.nx σ (upd H2 a (.ins C dx (dC f y fs)))
def InOp (X:Cx) (op:Operator) (rd:V→V→Hp→VK→Prop):Prop:=
 ∀(pins:List (Addr × Obj)) (s:Shared) (σ:St) (H:Hp) (x y:V) (u v:Value) (Q:VK),Inv X pins σ H s→cH x u→cH y v→rd x y H Q→wpAny (model X.prog X.w) X.A (inplaceOp op u v) (EP X pins σ Q) X.xe s
def sFldAug (K:PySem.W.Frag) (ta tv:TE) (rd:V→V→Hp→VK→Prop) (f:Str):TS:=fun D σ H=>ta σ H fun x H1=>∃a C dx fs v,x=.ref a∧H1 a=some (.ins C dx fs)∧Cls K C∧dE K C f∧fs.lookup f=some v ∧
 tv σ H1 fun y H2=>rd v y H2 fun z H3=>∃dx' fs',H3 a=some (.ins C dx' fs')∧fs'.length<1000∧D.nx σ (upd H3 a (.ins C dx' (dC f z fs')))
section
variable {X:Cx} {o e value:Expr} {f:Str} {pos pos' tpos:Pos} {ta tv:TE}
theorem aU (he:PE X e ta) (hb:attributeBase e f X.env (eval e X.env)=eval e X.env):PE X (.Attribute e f pos) (tFld X.K ta f):=by
 intro pins s σ H Q I h
 refine attr_of hb (thn (he pins s σ H _ I h) fun u s1 ⟨x,H1,I1,rx,a,C,dx,fs,v,ex,ea,c,n,l,q⟩=>?_)
 subst ex
 obtain rfl:u=Value.ref a:=rx
 exact qY I1 ea c n l fun u' s2 I2 ru=>⟨v,H1,I2,ru,q⟩
theorem dF (ha:PE X o ta) (hv:PE X value tv) (hs:swapsWith value (some (.Attribute o f pos')) pos.line X.env=pure false):PS X (.Assign [.Attribute o f pos'] value pos) (sFld X.K ta tv f):=by
 intro pins s σ H D I h
 refine plainObj_wpAny_Assign_Attribute (thn (hv pins s σ H _ I h) fun u s1 ⟨y,H1,I1,ry,q⟩=>thn (ha pins s1 σ H1 _ I1 q) fun ov s2 ⟨x,H2,I2,rx,a,C,dx,fs,ex,ea,c,n,l,q2⟩=>?_) hs
 subst ex
 obtain rfl:ov=Value.ref a:=rx
 exact pX I2 ea c n l ry fun s3 I3=>⟨σ,_,I3,q2⟩
theorem sQ {op:Operator} {rd:V→V→Hp→VK→Prop} (ha:PE X o ta) (hv:PE X value tv) (hop:InOp X op rd):PS X (.AugAssign (.Attribute o f tpos) op value pos) (sFldAug X.K ta tv rd f):=by
 intro pins s σ H D I h
 refine wpAny_AugAssign_AttributeAny (thn (ha pins s σ H _ I h) fun ov s1 ⟨x,H1,I1,rx,a,C,dx,fs,v,ex,ea,c,n,l,q⟩=>?_)
 subst ex
 obtain rfl:ov=Value.ref a:=rx
 refine qY I1 ea c n l fun u s2 I2 ru=>thn (hv pins s2 σ H1 _ I2 q) fun w3 s3 ⟨y,H2,I3,ry,q3⟩=>thn (hop pins s3 σ H2 v y u w3 _ I3 ru ry q3) fun w4 s4 ⟨z,H3,I4,rz,dx',fs',ea',l',q4⟩=>?_
 exact pX I4 ea' c n l' rz fun s5 I5=>⟨σ,_,I5,q4⟩
def rAdd:V→V→Hp→VK→Prop:=fun x y H Q=>∃i j,x=.int i∧y=.int j∧Q (.int (i+j)) H
theorem AdU:InOp X .Add rAdd:=by
 rintro pins s σ H x y u v Q I rx ry ⟨i,j,rfl,rfl,q⟩
 obtain⟨t,rfl⟩:=(show ∃t,u=Value.int i t from rx)
 obtain⟨t',rfl⟩:=(show ∃t',v=Value.int j t' from ry)
 exact PyProof.Rows.iadd_int ⟨.int (i+j),H,I.tok _,⟨_,rfl⟩,q⟩
end
section
variable {X:Cx} {pins:List (Addr × Obj)} {σ:St} {H:Hp} {s:Shared} {A:Around} {E:Value→Shared→Prop} {Q:Value→Shared→Prop} {c:Value} {b:Bool}
inductive iL (K:PySem.W.Frag) (H:Hp):V→Value→Prop where
 | non:iL K H .non (.type "NoneType")
 | bl (x:Bool):iL K H (.bl x) (.type "bool")
 | int (i:Int):iL K H (.int i) (.type "int")
 | str (x:Str):iL K H (.str x) (.type "str")
 | flt (x:UInt64):iL K H (.flt x) (.type "float")
 | lst {a:Addr} {xs:List V} (e:H a=some (.lst xs)):iL K H (.ref a) (.type "list")
 | frz {a:Addr} {o:Obj} {xs:List V} (e:H a=some (.frz o (.lst xs))):iL K H (.ref a) (.type "list")
 | tup {a:Addr} {xs:List V} (e:H a=some (.tup xs)):iL K H (.ref a) (.type "tuple")
 | dK {a:Addr} {kvs:List (Key × V)} (e:H a=some (.dK kvs)):iL K H (.ref a) (.type "dict")
 | dT {a:Addr} {kvs:List (List Key × V)} (e:H a=some (.dT kvs)):iL K H (.ref a) (.type "dict")
 | ins {a C dx:Addr} {fs:List (Str × V)} (e:H a=some (.ins C dx fs)) (cl:Cls K C) (ha:PySem.W.findIn K (.ref C) "__class__"=some (some (.builtin "object.__class__")))
   (hn:PySem.W.specialIn K (.builtin "object.__class__") "__get__"=some (some (.builtin "getset_descriptor.__get__"))) (htk:PySem.W.takesIn K (.builtin "object.__class__")=some true)
   (hm:PySem.W.mroIn K C (.type "object")=some true):iL K H (.ref a) (.ref C)
theorem AbA {x:V} {u t:Value} (I:Inv X pins σ H s) (rx:cH x u) (ty:iL X.K H x t) (e:PySem.W.kitOne X.K t c=some b) (h:∀tk,Q (.bool b) { s with toks:=tk }):
  wpAny (model X.prog X.w) A (call (.builtin "isinstance") [u,c]) Q E s:=by
 cases ty with
 | non=>cases (show u=Value.none from rx);exact PySem.W.kia_one PySem.W.kitx_none I.kIn True.intro e (fun z=>nomatch z) h
 | bl y=>cases (show u=Value.bool y from rx);exact PySem.W.kia_one PySem.W.kitx_bool I.kIn True.intro e (fun z=>nomatch z) h
 | int i=>obtain⟨t,q⟩:=(show ∃t,u=Value.int i t from rx);cases q;exact PySem.W.kia_one PySem.W.kitx_int I.kIn True.intro e (fun z=>nomatch z) h
 | str y=>obtain⟨t,q⟩:=(show ∃t,u=Value.str y t from rx);cases q;exact PySem.W.kia_one PySem.W.kitx_str I.kIn True.intro e (fun z=>nomatch z) h
 | flt y=>obtain⟨t,q⟩:=(show ∃t,u=Value.float y t from rx);cases q;exact PySem.W.kia_one PySem.W.kitx_float I.kIn True.intro e (fun z=>nomatch z) h
 | @lst a xs ea=>
  cases (show u=Value.ref a from rx)
  obtain⟨_,_,n,_,h1⟩:=(show cE X.prog X.w H s.heap a (.lst xs) from I.hok a _ ea)
  exact PySem.W.kia_one PySem.W.kitx_list I.kIn ⟨_,h1,rfl⟩ e (fun z=>nomatch z) h
 | @frz a ob xs ea=>
  cases (show u=Value.ref a from rx)
  obtain⟨_,_,_,n,_,h1⟩:=(show cE X.prog X.w H s.heap a (.frz ob (.lst xs)) from I.hok a _ ea)
  exact PySem.W.kia_one PySem.W.kitx_list I.kIn ⟨_,h1,rfl⟩ e (fun z=>nomatch z) h
 | @tup a xs ea=>
  cases (show u=Value.ref a from rx)
  obtain⟨_,_,_,p⟩:=(show cE X.prog X.w H s.heap a (.tup xs) from I.hok a _ ea)
  obtain⟨o,h1,h2,_⟩:=p
  exact PySem.W.kia_one PySem.W.kitx_tuple I.kIn ⟨o,h1,h2⟩ e (fun z=>nomatch z) h
 | @dK a kvs ea=>
  cases (show u=Value.ref a from rx)
  obtain⟨_,_,vs,_,p⟩:=(show cE X.prog X.w H s.heap a (.dK kvs) from I.hok a _ ea)
  obtain⟨o,es,ep,h1,h2,_⟩:=p
  exact PySem.W.kia_one PySem.W.kitx_dict I.kIn ⟨o,h1,h2.1⟩ e (fun z=>nomatch z) h
 | @dT a kvs ea=>
  cases (show u=Value.ref a from rx)
  obtain⟨_,_,xs,_,o,es,ep,h1,h2,_⟩:=(show cE X.prog X.w H s.heap a (.dT kvs) from I.hok a _ ea)
  exact PySem.W.kia_one PySem.W.kitx_dict I.kIn ⟨o,h1,h2.1⟩ e (fun z=>nomatch z) h
 | @ins a C dx fs ea cl ha hn htk hm=>
  cases (show u=Value.ref a from rx)
  obtain⟨mA,O,_⟩:=pB I.hok ea
  obtain⟨od,J,_⟩:=O.look
  exact PySem.W.kia_one (PySem.W.kitx_own (cl.get _) cl.hd ha hn htk hm) I.kIn J e (fun z=>nomatch z) h
end
structure Room (k:Nat) (A:Around):Prop where
 hd:A.handled=none
 dp:A.depth+3 * k+5<recursionLimit
 un:A.units+16 * k+200<cLine
theorem Room.mono {j k:Nat} {A:Around} (r:Room k A) (h:j≤k):Room j A:=⟨r.hd,by have:=r.dp;omega,by have:=r.un;omega⟩
theorem Room.deeper {k:Nat} {A:Around} (r:Room (k+1) A) (env:Env):Room k (A.deeper env):=
 ⟨r.hd,by have:=r.dp;show A.depth+1+3 * k+5<_;omega,by have:=r.un;show A.units+3+16 * k+200<_;omega⟩
theorem Room.in1 {k:Nat} {A:Around} (r:Room (k+1) A):Room k A.in1:=
 ⟨r.hd,by have:=r.dp;show A.depth+3 * k+5<_;omega,by have:=r.un;show A.units+1+16 * k+200<_;omega⟩
theorem xV {A:Around} {C:Addr} {us:List Value} {kw:List (Str × Value)}:(A.under (.builtin "type.__call__" ⟨.ref C::us,kw⟩)).depth=A.depth+1:=by
 first|rfl|simp [Around.under,Code.weight,Code.isCreation,Code.isGuard,Code.isCaller,Code.frames,Code.isFrame,guardIds]
theorem xU {A:Around} {C:Addr} {us:List Value} {kw:List (Str × Value)}:(A.under (.builtin "type.__call__" ⟨.ref C::us,kw⟩)).units=A.units+1:=by
 first|rfl|simp [Around.under,Code.cUnits,Code.frames,Code.isFrame]
theorem Room.make {k:Nat} {A:Around} (r:Room (k+1) A) (C:Addr) (us:List Value) (kw:List (Str × Value)):Room k (A.under (.builtin "type.__call__" ⟨.ref C::us,kw⟩)):=
 ⟨r.hd,by have:=r.dp;rw [xV];omega,by have:=r.un;rw [xU];omega⟩
theorem Room.depth {k:Nat} {A:Around} (r:Room k A):A.depth<recursionLimit:=by have:=r.dp;omega
theorem Room.units {k:Nat} {A:Around} (r:Room k A):A.units+64<cLine:=by have:=r.un;omega
def lR:TA:=fun _ H Q=>Q [] H
def gX (ta:TE) (tr:TA):TA:=fun σ H Q=>ta σ H fun x H1=>tr σ H1 fun xs H2=>Q (x::xs) H2
section
variable {X:Cx} {e:Expr} {es:List Expr} {te:TE} {t:TA} {pos:Pos}
theorem aE:PA X [] lR:=fun _ _ _ _ H Q I h=>Calls.spliced_nil ⟨[],H,I,.nil,h⟩
theorem aA (ha:PE X e te) (hr:PA X es t) (hs:starEach (e::es) X.env=(false,eval e X.env)::starEach es X.env:=by rfl):PA X (e::es) (gX te t):=by
 intro pos pins s σ H Q I h
 rw [hs]
 show wpAny _ _ (spliced ((false,eval e X.env)::backTo pos (starEach es X.env))) _ _ s
 refine Calls.spliced_cons (thn (ha pins s σ H _ I h) fun u s1 ⟨x,H1,I1,r1,q1⟩=>?_)
 exact thn (hr pos pins s1 σ H1 _ I1 q1) fun us s2 ⟨xs,H2,I2,r2,q2⟩=>⟨x::xs,H2,I2,.cons r1 r2,q2⟩
def tTup (t:TA):TE:=fun σ H Q=>t σ H fun xs H1=>xs.length≤sizeLine∧∀p,H1 p=none→Q (.ref p) (upd H1 p (.tup xs))
def tLst (t:TA):TE:=fun σ H Q=>t σ H fun xs H1=>xs.length≤sizeLine∧∀p,H1 p=none→Q (.ref p) (upd H1 p (.lst xs))
theorem cF {x1} (h:PA X es t):PE X (.Tuple es x1 pos) (tTup t):=by
 intro pins s σ H Q I hq
 refine wpAny_Tuple_spliced (thn (h pos pins s σ H _ I hq) fun us s1 ⟨xs,H1,I1,r,z,q⟩=>⟨by rw [← r.length];exact z,?_⟩)
 have hf:H1 s1.heap.objs.size=none:=I1.hok.fresh (Nat.le_refl _)
 refine⟨.ref s1.heap.objs.size,upd H1 s1.heap.objs.size (.tup xs),I1.laid (t':=s1.toks) (fun b u e=>Heap.get?_push_of_some _ e) (Nat.le_refl _) ?_,rfl,q _ hf⟩
 exact⟨z,us,r,⟨_,Heap.get?_push_size _ rfl,rfl,_,rfl⟩⟩
theorem dG (h:PA X es t):PE X (.List es pos) (tLst t):=by
 intro pins s σ H Q I hq
 refine wpAny_List_spliced (thn (h pos pins s σ H _ I hq) fun us s1 ⟨xs,H1,I1,r,z,q⟩=>⟨by rw [← r.length];exact z,?_⟩)
 have hf:H1 s1.heap.objs.size=none:=I1.hok.fresh (Nat.le_refl _)
 refine⟨.ref s1.heap.objs.size,upd H1 s1.heap.objs.size (.lst xs),I1.laid (t':=s1.toks) (fun b u e=>Heap.get?_push_of_some _ e) (Nat.le_refl _) ?_,rfl,q _ hf⟩
 exact⟨z,us,0,r,Heap.get?_push_size _ rfl⟩
end
abbrev Sp:=List V→Hp→VK→XK→Prop
abbrev CXT:=List Env→Hp→Shared→XK→Value→Shared→Prop
structure uY (P:Program) (w:World) (K:PySem.W.Frag) (mg:Str→Option Value) (base:Heap) (A:Around) (outer:List Env) (s:Shared) (H:Hp):Prop where
 frames:A.frames=some outer
 mod:Mod K mg base
 bs:∀b o,base.get? b=some o→s.heap.get? b=some o∧H b=none
 bsz:base.objs.size≤s.heap.objs.size
 funs:s.heap.FunFrames base outer
 frf:∀b ∈ frs outer,H b=none
 hok:HOk P w H s.heap
 bare:AllBare s.gens
def CE (outer:List Env) (P:Program) (w:World) (H:Hp) (s:Shared) (Q:VK) (u:Value) (s':Shared):Prop:=
 ∃v H',s'.os=s.os∧AllBare s'.gens∧Un (frs outer) [] H H' s.heap s'.heap∧HOk P w H' s'.heap∧cH v u∧Q v H'
def CR (CX:CXT) (outer:List Env) (P:Program) (w:World) (H:Hp) (s:Shared) (Q:VK) (E:XK) (r:Result) (s':Shared):Prop:=
 match r with
 | .ok (.ret u)=>CE outer P w H s Q u s'
 | .ok _=>False
 | .error e=>CX outer H s E e s'
structure aK (P:Program) (w:World) (K:PySem.W.Frag) (mg:Str→Option Value) (base:Heap) (CX:CXT) (k:Nat) (f:Addr) (fd:FuncData) (ps:List Str) (sp:Sp):Prop where
 len:∀vs H Q E,sp vs H Q E→vs.length=ps.length
 run:∀(A:Around) (outer:List Env) (s:Shared) (H:Hp) (args:Args) (us:List Value) (vs:List V) (Q:VK) (E:XK),Room k A→uY P w K mg base A outer s H→BindsTo s fd args (ps.zip us)→cB vs us→sp vs H Q E →
  codeAny (model P w) A (.call (.ref f) args) (CR CX outer P w H s Q E) s
theorem aK.mono {P:Program} {w:World} {K:PySem.W.Frag} {mg:Str→Option Value} {base:Heap} {CX:CXT} {j k:Nat} {f:Addr} {fd:FuncData} {ps:List Str} {sp:Sp} (F:aK P w K mg base CX j f fd ps sp) (h:j≤k):
  aK P w K mg base CX k f fd ps sp:=⟨F.len,fun A outer s H args us vs Q E hr=>F.run A outer s H args us vs Q E (hr.mono h)⟩
theorem aK.imp {P:Program} {w:World} {K:PySem.W.Frag} {mg:Str→Option Value} {base:Heap} {CX:CXT} {k:Nat} {f:Addr} {fd:FuncData} {ps:List Str} {sp sp':Sp} (F:aK P w K mg base CX k f fd ps sp)
  (h:∀vs H Q E,sp' vs H Q E→sp vs H Q E):aK P w K mg base CX k f fd ps sp':=
 ⟨fun vs H Q E q=>F.len vs H Q E (h _ _ _ _ q),fun A outer s H args us vs Q E hr he hb hv hs=>F.run A outer s H args us vs Q E hr he hb hv (h _ _ _ _ hs)⟩
theorem uY.make {P:Program} {w:World} {K:PySem.W.Frag} {mg:Str→Option Value} {base:Heap} {A:Around} {outer:List Env} {s:Shared} {H:Hp} (e:uY P w K mg base A outer s H) (C:Addr) (us:List Value) (kw:List (Str × Value)):
  uY P w K mg base (A.under (.builtin "type.__call__" ⟨.ref C::us,kw⟩)) outer s H:=⟨by first|exact e.frames|(simpa [Around.under,Code.envs,Code.isFrame,pushEnvs] using e.frames),e.mod,e.bs,e.bsz,e.funs,e.frf,e.hok,e.bare⟩
section
variable {X:Cx} {pins:List (Addr × Obj)} {σ:St} {H:Hp} {s s':Shared}
theorem Inv.env0 (I:Inv X pins σ H s):uY X.prog X.w X.K X.mg X.base X.A X.stack s H:=
 ⟨I.ok.frames,I.ok.mod,I.bs,Nat.le_trans I.ok.bsz I.sz,I.stack,I.stkFree,I.hok,I.bare⟩
theorem Inv.after {Q:VK} {u:Value} (I:Inv X pins σ H s) (h:CE X.stack X.prog X.w H s Q u s'):EP X pins σ Q u s':=by
 obtain⟨v,H',os,bare,un,hok,r,q⟩:=h
 obtain⟨hh,g,d,t,os'⟩:=s'
 obtain rfl:os'=s.os:=os
 exact⟨v,H',I.call (h':=hh) (g':=g) (d':=d) (t':=t) (ch:=[]) un hok bare (fun b z=>absurd z (by simp)),r,q⟩
end
def yH (sp:Sp) (dvs:List V) (E:XK) (t:TA):TE:=fun σ H Q=>t σ H fun vs H1=>sp (vs++dvs) H1 Q E
def tMeth (C:Addr) (m:Str) (sp:Sp) (dvs:List V) (E:XK) (ta:TE) (t:TA):TE:=fun σ H Q=>ta σ H fun x H1=>∃a dx fs,x=.ref a∧H1 a=some (.ins C dx fs)∧fs.lookup m=none ∧
 t σ H1 fun vs H2=>sp (x::(vs++dvs)) H2 Q E
def tMake (C:Addr) (sp:Sp) (dvs:List V) (E:XK) (t:TA):TE:=fun σ H Q=>t σ H fun vs H1=>∀x dx,H1 x=none→H1 dx=none→dx≠x →
 sp (.ref x::(vs++dvs)) (upd (upd H1 dx (.own x)) x (.ins C dx [])) (fun v H2=>v=.non∧Q (.ref x) H2) E
def aP (K:PySem.W.Frag) (fd:FuncData) (ps:List Str) (ds:List Value):Prop:=
 ∀(s:Shared) (us:List Value),K.In s.heap→(us++ds).length=ps.length→BindsTo s fd ⟨us,[]⟩ (ps.zip (us++ds))
theorem aP.all {K:PySem.W.Frag} {fd:FuncData} {ps:List Str} (h:∀us:List Value,us.length=ps.length→bindArgs fd ⟨us,[]⟩=pure (ps.zip us)):aP K fd ps []:=fun s us _ hl=>by
 rw [List.append_nil] at hl ⊢
 exact .of_eq (h us hl)
def gE (CX:CXT) (X:Cx) (E:XK):Prop:=∀(pins:List (Addr × Obj)) (σ:St) (H:Hp) (s:Shared) (e:Value) (s':Shared),Inv X pins σ H s→CX X.stack H s E e s'→X.xe e s'
section
variable {X:Cx} {CX:CXT} {k:Nat} {f C:Addr} {fd:FuncData} {ps:List Str} {sp:Sp} {dvs:List V} {ds:List Value} {E:XK} {x m:Str} {p pos apos:Pos} {e o:Expr} {es:List Expr} {ta:TE} {t:TA}
theorem uG {pins:List (Addr × Obj)} {σ:St} {H:Hp} {s:Shared} {Q:VK} {us:List Value} {vs:List V} (F:aK X.prog X.w X.K X.mg X.base CX k f fd ps sp) (hr:Room k X.A) (hb:aP X.K fd ps ds) (hd:cB dvs ds) (hx:gE CX X E)
  (I:Inv X pins σ H s) (r:cB vs us) (h:sp (vs++dvs) H Q E):wpAny (model X.prog X.w) X.A (call (.ref f) us) (EP X pins σ Q) X.xe s:=by
 have r2:cB (vs++dvs) (us++ds):=r.append hd
 have hl:(us++ds).length=ps.length:=by rw [← r2.length];exact F.len _ _ _ _ h
 refine wpAny_call (codeAny_mono (F.run X.A X.stack s H ⟨us,[]⟩ (us++ds) (vs++dvs) Q E hr I.env0 (hb s us I.kIn hl) r2 h) fun r s' hq=>?_)
 cases r with
 | error e=>exact hx pins σ H s e s' I hq
 | ok fl=>
  cases fl with
  | ret u=>exact I.after hq
  | next=>exact False.elim hq
  | brk=>exact False.elim hq
  | cont=>exact False.elim hq
theorem bJ (F:aK X.prog X.w X.K X.mg X.base CX k f fd ps sp) (hr:Room k X.A) (hg:Gl X x) (hm:X.mg x=some (.ref f)) (hk:PySem.W.keepIn X.K (.ref f)=true) (hb:aP X.K fd ps ds) (hd:cB dvs ds) (hx:gE CX X E)
  (ha:PA X (e::es) t) (hdb:(x == ("__debug__":Str))=false:=by decide) (he:starEach (e::es) X.env=(false,eval e X.env)::starEach es X.env:=by rfl) (hpl:(backTo pos (starEach es X.env)).any (·.1)=false:=by rfl):
  PE X (.Call (.Name x p) (e::es) [] pos) (yH sp dvs E t):=by
 intro pins s σ H Q I h
 refine wpAny_Call_Name_kw (jO I hg hm ?_ hdb)
 refine PySem.W.callWith_K (h₀:=X.base) I.ok.mod.kin hk (thn (ha pos pins s σ H _ I h) fun us s1 ⟨vs,H1,I1,r,q⟩=>⟨I1.kIn,?_⟩) he hpl
 exact uG F hr hb hd hx I1 r q
theorem AcW (F:aK X.prog X.w X.K X.mg X.base CX k f fd ps sp) (hr:Room k X.A) (hg:Gl X x) (hm:X.mg x=some (.ref f)) (hk:PySem.W.keepIn X.K (.ref f)=true) (hb:aP X.K fd ps ds) (hd:cB dvs ds) (hx:gE CX X E)
  (hdb:(x == ("__debug__":Str))=false:=by decide):PE X (.Call (.Name x p) [] [] pos) (yH sp dvs E lR):=by
 intro pins s σ H Q I h
 refine wpAny_Call_Name_kw (jO I hg hm ?_ hdb)
 exact PySem.W.callWith_K0 I.kIn hk (uG (us:=[]) F hr hb hd hx I .nil h)
theorem dQ {pl:Sem Bool} (he:PE X o ta) (c:Cls X.K C) (hm:cJ X.K C m f) (F:aK X.prog X.w X.K X.mg X.base CX k f fd ps sp) (hr:Room k X.A) (hb:aP X.K fd ps ds) (hd:cB dvs ds) (hx:gE CX X E) (ha:PA X (e::es) t)
  (hst:starEach (e::es) X.env=(false,eval e X.env)::starEach es X.env:=by rfl) (hpl:(backTo pos (starEach es X.env)).any (·.1)=false:=by rfl)
  (ht:eval (.Call (.Attribute o m apos) (e::es) [] pos) X.env=(do
   let ov ← eval o X.env
   standAt apos.atName
   let (f,first) ← holding [ov] (getMethod ov m pl)
   callWith pos f first (backTo pos (starEach (e::es) X.env)) (backToKw pos (keywordEach [] X.env))):=by rfl):
  PE X (.Call (.Attribute o m apos) (e::es) [] pos) (tMeth C m sp dvs E ta t):=by
 intro pins s σ H Q I h
 refine PySem.W.methodCall_KW (pl:=pl) (thn (he pins s σ H _ I h) fun u s1 ⟨x,H1,I1,rx,a,dx,fs,ex,ea,l,q⟩=>?_) ht
 subst ex
 obtain rfl:u=Value.ref a:=rx
 refine qX I1 ea c hm l ?_
 refine PySem.W.callWith_K (first:=[.ref a]) (h₀:=X.base) I.ok.mod.kin hm.kp (thn (ha pos pins s1 σ H1 _ I1 q) fun us s2 ⟨vs,H2,I2,r,q2⟩=>⟨I2.kIn,?_⟩) hst hpl
 exact uG (us:=.ref a::us) (vs:=.ref a::vs) F hr hb hd hx I2 (.cons rfl r) q2
theorem cN {pl:Sem Bool} (he:PE X o ta) (c:Cls X.K C) (hm:cJ X.K C m f) (F:aK X.prog X.w X.K X.mg X.base CX k f fd ps sp) (hr:Room k X.A) (hb:aP X.K fd ps ds) (hd:cB dvs ds) (hx:gE CX X E)
  (ht:eval (.Call (.Attribute o m apos) [] [] pos) X.env=(do
   let ov ← eval o X.env
   standAt apos.atName
   let (f,first) ← holding [ov] (getMethod ov m pl)
   callWith pos f first (backTo pos (starEach [] X.env)) (backToKw pos (keywordEach [] X.env))):=by rfl):
  PE X (.Call (.Attribute o m apos) [] [] pos) (tMeth C m sp dvs E ta lR):=by
 intro pins s σ H Q I h
 refine PySem.W.methodCall_KW (pl:=pl) (thn (he pins s σ H _ I h) fun u s1 ⟨x,H1,I1,rx,a,dx,fs,ex,ea,l,q⟩=>?_) ht
 subst ex
 obtain rfl:u=Value.ref a:=rx
 refine qX I1 ea c hm l ?_
 exact PySem.W.callWith_K0 (first:=[.ref a]) I1.kIn hm.kp (uG (us:=[.ref a]) (vs:=[.ref a]) F hr hb hd hx I1 (.cons rfl .nil) q)
structure Mk (K:PySem.W.Frag) (C f:Addr):Prop where
 makes:PySem.W.makesIn K C=true
 init:PySem.W.findIn K (.ref C) "__init__"=some (some (.ref f))
 fn:PySem.W.isFn K (.ref f)=true
 kp:PySem.W.keepIn K (.ref C)=true
theorem AcG {pins:List (Addr × Obj)} {σ:St} {H:Hp} {s:Shared} {Q:VK} {us:List Value} {vs:List V} (M:Mk X.K C f) (F:aK X.prog X.w X.K X.mg X.base CX k f fd ps sp) (hr:Room (k+1) X.A) (hb:aP X.K fd ps ds) (hd:cB dvs ds)
  (hx:gE CX X E) (I:Inv X pins σ H s) (r:cB vs us)
  (h:∀x dx,H x=none→H dx=none→dx≠x→sp (.ref x::(vs++dvs)) (upd (upd H dx (.own x)) x (.ins C dx [])) (fun v H2=>v=.non∧Q (.ref x) H2) E):
  wpAny (model X.prog X.w) X.A (call (.ref C) us) (EP X pins σ Q) X.xe s:=by
 have hq:=h (s.heap.objs.size+1) s.heap.objs.size (I.hok.fresh (Nat.le_succ _)) (I.hok.fresh (Nat.le_refl _)) (Nat.ne_of_lt (Nat.lt_succ_self _))
 have I2:=Inv.made (C:=C) I
 have r2:cB (V.ref (s.heap.objs.size+1)::(vs++dvs)) (Value.ref (s.heap.objs.size+1)::(us++ds)):=.cons rfl (r.append hd)
 have hl:(Value.ref (s.heap.objs.size+1)::us++ds).length=ps.length:=by
  have e:=r2.length
  rw [F.len _ _ _ _ hq] at e
  exact e.symm
 refine wpAny_call (AdP (f:=f) I.kIn M.makes M.init (beq_iff_eq.mp M.fn) (codeAny_mono (F.run _ X.stack _ _ ⟨Value.ref (s.heap.objs.size+1)::us,[]⟩ (Value.ref (s.heap.objs.size+1)::(us++ds)) _ _ E (hr.make C us [])
  (I2.env0.make C us []) (hb _ (Value.ref (s.heap.objs.size+1)::us) I2.kIn hl) r2 hq) fun r s' hq'=>?_))
 cases r with
 | error e=>exact hx pins σ _ _ e s' I2 hq'
 | ok fl=>
  cases fl with
  | ret u=>
   obtain⟨v,H',I3,rv,ev,q3⟩:=I2.after hq'
   subst ev
   exact⟨rv,⟨V.ref (s.heap.objs.size+1),H',I3,rfl,q3⟩⟩
  | next=>exact False.elim hq'
  | brk=>exact False.elim hq'
  | cont=>exact False.elim hq'
theorem iI (M:Mk X.K C f) (F:aK X.prog X.w X.K X.mg X.base CX k f fd ps sp) (hr:Room (k+1) X.A) (hg:Gl X x) (hm:X.mg x=some (.ref C)) (hb:aP X.K fd ps ds) (hd:cB dvs ds) (hx:gE CX X E)
  (ha:PA X (e::es) t) (hdb:(x == ("__debug__":Str))=false:=by decide) (he:starEach (e::es) X.env=(false,eval e X.env)::starEach es X.env:=by rfl) (hpl:(backTo pos (starEach es X.env)).any (·.1)=false:=by rfl):
  PE X (.Call (.Name x p) (e::es) [] pos) (tMake C sp dvs E t):=by
 intro pins s σ H Q I h
 refine wpAny_Call_Name_kw (jO I hg hm ?_ hdb)
 refine PySem.W.callWith_K (h₀:=X.base) I.ok.mod.kin M.kp (thn (ha pos pins s σ H _ I h) fun us s1 ⟨vs,H1,I1,r,q⟩=>⟨I1.kIn,?_⟩) he hpl
 exact AcG M F hr hb hd hx I1 r q
end
def PK (X:Cx) (kws:List Keyword) (t:TA):Prop:=
 ∀(pos:Pos) (pins:List (Addr × Obj)) (s:Shared) (σ:St) (H:Hp) (Q:List V→Hp→Prop),Inv X pins σ H s→t σ H Q→wpAny (model X.prog X.w) X.A (evalAll ((backToKw pos (keywordEach kws X.env)).map (·.2))) (AP X pins σ Q) X.xe s
section
variable {X:Cx} {CX:CXT} {k:Nat} {f C:Addr} {fd:FuncData} {ps ks:List Str} {sp:Sp} {E:XK} {x m:Str} {p pos apos kpos:Pos} {e o:Expr} {es:List Expr} {kws:List Keyword} {te ta:TE} {t tk:TA} {nm:Option Str}
theorem uI:PK X [] lR:=fun _ _ _ _ H Q I h=>wpAny_evalAll_nil ⟨[],H,I,.nil,h⟩
theorem oW (ha:PE X e te) (hr:PK X kws t):PK X (⟨nm,e,kpos⟩::kws) (gX te t):=by
 intro pos pins s σ H Q I h
 show wpAny _ _ (evalAll ((do let v ← eval e X.env;standAt pos;pure v)::(backToKw pos (keywordEach kws X.env)).map (·.2))) _ _ s
 refine wpAny_evalAll_cons (wpAny_bind (thn (ha pins s σ H _ I h) fun u s1 ⟨x,H1,I1,r1,q1⟩=>wpAny_bind (wpAny_standAt (wpAny_pure ?_))))
 exact thn (hr pos pins s1 σ H1 _ I1 q1) fun us s2 ⟨xs,H2,I2,r2,q2⟩=>⟨x::xs,H2,I2,.cons r1 r2,q2⟩
variable {g:List Value→List Value→List Value} {gV:List V→List V→List V}
end
structure aR (N P:List Str) (sc:Scope):Prop where
 kind:sc.kind=.function
 co:sc.isCoroutine=false
 gen:sc.isGenerator=false
 nd:N.Nodup
 pre:N.take P.length=P
 par:∀x ∈ P,sc.names.lookup x=some .local∨sc.names.lookup x=some .cell
 nofree:∀y ∈ sc.names,y.2≠.free
theorem tI {kindOf:Str→Option NameKind} {x:Str}:∀{binds:List (Str × Value)} {m:Str→Option Value},(∀v,(x,v) ∉ binds)→bindL kindOf binds m x=m x
 | [],_,_=>rfl
 | (n,v)::r,m,h=>by
  unfold bindL
  rw [tI fun w hw=>h w (List.mem_cons_of_mem _ hw)]
  split
  ·have:x≠n:=by rintro rfl;exact h v List.mem_cons_self
   simp [this]
  ·rfl
theorem tK {kindOf:Str→Option NameKind} {x:Str}:∀{binds:List (Str × Value)} {m:Str→Option Value},(∀v,(x,v) ∉ binds)→bindC kindOf binds m x=m x
 | [],_,_=>rfl
 | (n,v)::r,m,h=>by
  unfold bindC
  rw [tK fun w hw=>h w (List.mem_cons_of_mem _ hw)]
  split
  ·rfl
  ·have:x≠n:=by rintro rfl;exact h v List.mem_cons_self
   simp [this]
theorem tJ {kindOf:Str→Option NameKind} {x:Str} {v:Value}:∀{P:List Str} {vs:List Value} {i:Nat} {m:Str→Option Value},P.Nodup→P[i]?=some x→vs[i]?=some v→kindOf x=some .local →
  bindL kindOf (P.zip vs) m x=some v
 | [],_,_,_,_,h,_,_=>by simp at h
 | _::_,[],_,_,_,_,h,_=>by simp at h
 | p::P,w::vs,0,m,nd,h1,h2,hk=>by
  simp at h1 h2;subst h1;subst h2
  show bindL kindOf ((p,w)::P.zip vs) m p=_
  unfold bindL
  rw [tI fun v hv=>(List.nodup_cons.mp nd).1 (List.of_mem_zip hv).1,if_pos hk]
  simp
 | p::P,w::vs,i+1,m,nd,h1,h2,hk=>by
  show bindL kindOf ((p,w)::P.zip vs) m x=_
  unfold bindL
  exact tJ (i:=i) (List.nodup_cons.mp nd).2 (by simpa using h1) (by simpa using h2) hk
theorem tL {kindOf:Str→Option NameKind} {x:Str} {v:Value}:∀{P:List Str} {vs:List Value} {i:Nat} {m:Str→Option Value},P.Nodup→P[i]?=some x→vs[i]?=some v→kindOf x≠some .local →
  bindC kindOf (P.zip vs) m x=some v
 | [],_,_,_,_,h,_,_=>by simp at h
 | _::_,[],_,_,_,_,h,_=>by simp at h
 | p::P,w::vs,0,m,nd,h1,h2,hk=>by
  simp at h1 h2;subst h1;subst h2
  show bindC kindOf ((p,w)::P.zip vs) m p=_
  unfold bindC
  rw [tK fun v hv=>(List.nodup_cons.mp nd).1 (List.of_mem_zip hv).1,if_neg hk]
  simp
 | p::P,w::vs,i+1,m,nd,h1,h2,hk=>by
  show bindC kindOf ((p,w)::P.zip vs) m x=_
  unfold bindC
  exact tL (i:=i) (List.nodup_cons.mp nd).2 (by simpa using h1) (by simpa using h2) hk
def dO (N:List Str) (vs:List V):St:=vs.map some++List.replicate (N.length-vs.length) none
def kO (CX:CXT) (P:Program) (w:World) (K:PySem.W.Frag) (mg:Str→Option Value) (base:Heap) (N:List Str) (qual:Str) (scope:Scope) (f:Addr) (cd:Value) (A:Around) (outer:List Env) (s:Shared) (H:Hp) (E:XK):Cx where
 prog:=P
 w:=w
 K:=K
 mg:=mg
 base:=base
 A:=A.deeper (envOfC qual scope s.heap.objs.size f cd)
 N:=N
 s₀:=s
 H₀:=H
 env:=envOfC qual scope s.heap.objs.size f cd
 outer:=outer
 stack:=envOfC qual scope s.heap.objs.size f cd::outer
 ex:=[]
 calm:=true
 fn:=fun _=>true
 pn:=[]
 xe:=fun e s'=>wpAny (model P w) (A.deeper (envOfC qual scope s.heap.objs.size f cd)) (leaving (envOfC qual scope s.heap.objs.size f cd) e) (fun _ s''=>CX outer H s E e s'') (fun e' s''=>CX outer H s E e' s'') s'
theorem wK {sc:Scope} {n:Nat} {x:Str} (h:sc.names.lookup x=some .cell):∃c,(cellsFrom n sc.names []).lookup x=some c:=by
 have q:=PySem.W.cellsFrom_some sc.names n [] (.inl h)
 exact Option.isSome_iff_exists.mp q
theorem sY {CX:CXT} {P:Program} {w:World} {K:PySem.W.Frag} {mg:Str→Option Value} {base:Heap} {N ps:List Str} {qual:Str} {scope:Scope} {f:Addr} {cd:Value} {A:Around} {outer:List Env} {s s1:Shared} {H:Hp} {E:XK} {us:List Value} {vs:List V}
  (S:aR N ps scope) (hd:A.handled=none) (e0:uY P w K mg base A outer s H) (hl:vs.length=ps.length) (r:cB vs us)
  (x:InCallC s s.heap.objs.size (bindL (envOfC qual scope s.heap.objs.size f cd).kindOf (ps.zip us) fun _=>none) (cellsFrom (s.heap.objs.size+1) scope.names []) (bindC (envOfC qual scope s.heap.objs.size f cd).kindOf (ps.zip us) fun _=>none) s1):
  Inv (kO CX P w K mg base N qual scope f cd A outer s H E) [] (dO N vs) H s1:=by
 have hpl:ps.length≤N.length:=by have:=congrArg List.length S.pre;rw [List.length_take] at this;omega
 obtain⟨h1,tk,rfl,hk⟩:=x.done
 have noA:∀b:Addr,b ∉ (kO CX P w K mg base N qual scope f cd A outer s H E).ex:=fun b z=>absurd (show b ∈ ([]:List Addr) from z) (by simp)
 refine⟨⟨e0.mod,S.kind,rfl,rfl,Nat.le_refl _,fun y z c h1 h2=>?_,fun y hy=>?_,fun y c _ h=>?_,fun _=>hd,Around.frames_deeper e0.frames,.inr ⟨rfl,rfl⟩,fun b z=>absurd z (noA b),e0.bs,e0.bsz,fun b _ _=>noA b,fun b z=>absurd z (noA b),e0.funs,e0.frf⟩,
  rfl,e0.bare,Un.kept hk,⟨_,x.toInCall.ns,fun i y v h1 h2 h3=>?_⟩,fun y c h=>⟨_,x.cell y c h⟩,e0.hok.fresh (Nat.le_refl _),fun y c h=>?_,fun p hp=>absurd (show p ∈ ([]:List (Addr × Obj)) from hp) (by simp),e0.hok.kept hk,?_⟩
 ·exact name_of_addr x.apart (PySem.mem_of_lookup h1) (PySem.mem_of_lookup h2)
 ·have hy:scope.names.lookup y=some .cell∨scope.names.lookup y=some .free:=hy
  rcases hy with hy|hy
  ·exact wK hy
  ·exact absurd rfl (S.nofree _ (PySem.mem_of_lookup hy))
 ·exact Nat.le_of_lt (x.above y c (PySem.mem_of_lookup h))
 ·have hi:i<vs.length:=by
   unfold dO at h2
   by_cases hi:i<vs.length
   ·exact hi
   ·rw [List.getElem?_append_right (by simpa using hi)] at h2
    rw [List.getElem?_replicate] at h2
    split at h2 <;> cases h2
  have ha:vs[i]?=some v:=by
   unfold dO at h2
   rw [List.getElem?_append_left (by simpa using hi),List.getElem?_map] at h2
   cases e:vs[i]? with
   | none=>rw [e] at h2;cases h2
   | some a=>rw [e] at h2;cases h2;rfl
  obtain⟨u,hu,rv⟩:=r.get ha
  have hp:ps[i]?=some y:=by
   rw [← S.pre,List.getElem?_take_of_lt (by omega)];exact h1
  have ndP:ps.Nodup:=by rw [← S.pre];exact S.nd.sublist (List.take_sublist _ _)
  refine⟨u,rv,?_⟩
  rcases S.par y (List.mem_of_getElem? hp) with k|k
  ·exact .inl ⟨k,tJ ndP hp hu k⟩
  ·obtain⟨c,e⟩:=wK (n:=s.heap.objs.size+1) k
   refine .inr ⟨.inl k,c,e,?_⟩
   have q:=x.cell y c e
   rw [tL ndP hp hu (by show scope.names.lookup y≠_;rw [k];decide)] at q
   exact q
 ·exact e0.hok.fresh (Nat.le_of_lt (x.above y c (PySem.mem_of_lookup h)))
 ·unfold dO
  show _=N.length
  rw [List.length_append,List.length_map,List.length_replicate]
  omega
theorem fn_of {CX:CXT} {P:Program} {w:World} {K:PySem.W.Frag} {mg:Str→Option Value} {base:Heap} {k:Nat} {f:Addr} {name qual:Str} {params:Arguments} {body:List Stmt} {scope:Scope} {dV kV doc pm cdv ct oc:Value} {an od:Option Addr}
  {osl:Array (Option Value)} {N ps:List Str} {sp:Sp} (lk:K.lookup f=some ⟨oc,od,.func (PySem.W.fnOf name qual params body scope dV kV doc pm an cdv ct),osl⟩) (hcd:PySem.W.codeIn K cdv qual=true) (S:aR N ps scope)
  (len:∀vs H Q E,sp vs H Q E→vs.length=ps.length)
  (hbody:∀(A:Around) (outer:List Env) (s:Shared) (H:Hp) (vs:List V) (Q:VK) (E:XK),Room k (A.deeper (envOfC qual scope s.heap.objs.size f cdv))→sp vs H Q E →
   ∃t,PSs (kO CX P w K mg base N qual scope f cdv A outer s H E) body t∧t { nx:=fun _ H'=>Q .non H',rt:=Q } (dO N vs) H):
  aK P w K mg base CX (k+1) f (PySem.W.fnOf name qual params body scope dV kV doc pm an cdv ct) ps sp:=by
 refine⟨len,fun A outer s H args us vs Q E hr e0 hb r hsp=>?_⟩
 have hl:=len _ _ _ _ hsp
 have KX:K.In s.heap:=e0.mod.kin.keeps fun b o e=>(e0.bs b o e).1
 have lim:s.heap.NoLimit:=e0.mod.nolimit.keeps fun b o e=>(e0.bs b o e).1
 have hkind:∀y ∈ ps.zip us,scope.names.lookup y.1=some .local∨(scope.names.lookup y.1=some .cell∧((cellsFrom (s.heap.objs.size+1) scope.names []).lookup y.1).isSome=true):=fun⟨n,v⟩ hy=>by
  rcases S.par n (List.of_mem_zip hy).1 with q|q
  ·exact .inl q
  ·exact .inr ⟨q,PySem.W.cellsFrom_some _ _ _ (.inl q)⟩
 refine codeAny_call_function hr.depth (KX _ _ lk) rfl S.co S.gen rfl (PySem.W.codeRec_of KX hcd) (hb _ _ _ _ ?_)
 refine wpAny_newFunctionEnv_cells S.kind hkind fun env he s1 x=>?_
 subst he
 refine⟨lim.keeps x.toInCall.keep,codeAny_func ?_⟩
 obtain⟨t,ht,hq⟩:=hbody A outer s H vs Q E (hr.deeper _) hsp
 have I:Inv (kO CX P w K mg base N qual scope f cdv A outer s H E) [] (dO N vs) H s1:=sY S hr.hd e0 hl r x
 refine wpAny_mono (ht [] s1 (dO N vs) H _ I hq) (fun fl s' hs=>?_) fun e s' hs=>hs
 have fin:∀{σ':St} {H':Hp} {v:V} {u:Value},Inv (kO CX P w K mg base N qual scope f cdv A outer s H E) [] σ' H' s'→cH v u→Q v H'→CE outer P w H s Q u s':=
  fun {σ' H' v u} J rv q=>⟨v,H',J.os,J.bare,J.base,J.hok,rv,q⟩
 cases fl with
 | ret u=>
  obtain⟨v,σ',H',J,rv,q⟩:=hs
  exact fin J rv q
 | next=>
  obtain⟨σ',H',J,q⟩:=hs
  exact fin (v:=V.non) (u:=Value.none) J rfl q
 | brk=>
  obtain⟨_,_,_,q⟩:=hs
  exact False.elim q
 | cont=>
  obtain⟨_,_,_,q⟩:=hs
  exact False.elim q
section
variable {X:Cx} {x:Str} {p pos:Pos} {e:Expr} {es:List Expr} {t:TA} {id T:String} {r:List V→Hp→VK→Prop}
def tCB (r:List V→Hp→VK→Prop) (t:TA):TE:=fun σ H Q=>t σ H fun vs H1=>r vs H1 Q
theorem aV (hc:gP X (.builtin id) r) (hg:Gl X x) (hm:X.mg x=none) (hv:bootBuiltins x=some (.builtin id)) (ha:PA X (e::es) t) (hn:x≠"__name__":=by decide) (hdb:(x == ("__debug__":Str))=false:=by decide)
  (he:starEach (e::es) X.env=(false,eval e X.env)::starEach es X.env:=by rfl) (hpl:(backTo pos (starEach es X.env)).any (·.1)=false:=by rfl):PE X (.Call (.Name x p) (e::es) [] pos) (tCB r t):=by
 intro pins s σ H Q I h
 refine wpAny_Call_Name_kw (iZ I hg hm hv ?_ hn hdb)
 exact PyProof.Rows.callWith_builtin1 (thn (ha pos pins s σ H _ I h) fun us s1 ⟨vs,H1,I1,r1,q1⟩=>hc pins s1 σ H1 vs us Q I1 r1 q1) he hpl
theorem dJ (hc:gP X (.type T) r) (hg:Gl X x) (hm:X.mg x=none) (hv:bootBuiltins x=some (.type T)) (ha:PA X (e::es) t) (hn:x≠"__name__":=by decide) (hdb:(x == ("__debug__":Str))=false:=by decide)
  (he:starEach (e::es) X.env=(false,eval e X.env)::starEach es X.env:=by rfl) (hpl:(backTo pos (starEach es X.env)).any (·.1)=false:=by rfl):PE X (.Call (.Name x p) (e::es) [] pos) (tCB r t):=by
 intro pins s σ H Q I h
 refine wpAny_Call_Name_kw (iZ I hg hm hv ?_ hn hdb)
 exact PyProof.Rows.callWith_type1 (thn (ha pos pins s σ H _ I h) fun us s1 ⟨vs,H1,I1,r1,q1⟩=>hc pins s1 σ H1 vs us Q I1 r1 q1) he hpl
end
end L2
namespace HT
open PySem PyProof.Rows
def lexLt:List Int→List Int→Bool
 | [],[]=>false
 | [],_::_=>true
 | _::_,[]=>false
 | x::xs,y::ys=>if x=y then lexLt xs ys else decide (x<y)
theorem lexLt_cons (x y:Int) (xs ys:List Int):lexLt (x::xs) (y::ys)=if x=y then lexLt xs ys else decide (x<y):=rfl
theorem lexLt_nil_nil:lexLt [] []=false:=rfl
theorem qR (y:Int) (ys:List Int):lexLt [] (y::ys)=true:=rfl
theorem qS (x:Int) (xs:List Int):lexLt (x::xs) []=false:=rfl
theorem AeB (A:Around) (s:Shared) (a:Int) (t:Tok) (c:Int) (u:Tok):∃e,SeqAt.EqAt A s (.int a t) (.int c u) e∧(e=true↔a=c):=
 ⟨(a == c),SeqAt.EqAt.int_int a t c u,by simp⟩
theorem AcJ (A:Around) (s:Shared) (a:Int) (t:Tok) (c:Int) (u:Tok) (prog:Program) (w:World) (E:Value→Shared→Prop) (Q:Value→Shared→Prop) (h:Q (.bool (decide (a<c))) s):
  wpAny (model prog w) A (richCompare .Lt (.int a t) (.int c u)) Q E s:=
 (PyProof.Rows.lt_int h:wpAny (model prog w) A (compareOp .Lt (.int a t) (.int c u)) Q E s)
section
open PySem.SeqAt
open PySem.AutoSeq1 (wpAny_loadPart')
open PySem.MeetsSeq PySem.MeetsSeq2 PySem.MeetsSeq3
theorem rM (l b:Addr) (items items2:Array Value) (n n2:Nat) (dd dd2:Option Addr) (sl sl2:Array (Option Value)) (ns ms:List Int) (hi:IntsAre items.toList ns) (hj:IntsAre items2.toList ms):
  Meets (Builtin.«tuple.__lt__» ⟨[.ref l,.ref b],[]⟩)
   (fun _ R s=>s.heap.get? l=some { cls:=.type "tuple",dict:=dd,data:=.seq items n,slots:=sl }∧s.heap.get? b=some { cls:=.type "tuple",dict:=dd2,data:=.seq items2 n2,slots:=sl2 } ∧
    R (.ok (.ret (.bool (lexLt ns ms)))) s):=
 .of_wp fun prog w A R s h=>by
  obtain⟨hp,g,d,tk,os⟩:=s;obtain⟨hl,hb,h⟩:=h
  have f2:=AutoSeq1.sub_tuple_tuple
  have z1:items.size=ns.length:=by rw [← hi.length];simp
  have z2:items2.size=ms.length:=by rw [← hj.length];simp
  wp_walk using wpAny_loadPart' hl,wpAny_loadPart' hb,wpAny_forIn_list _ (fun rest b s'=>b.1=none∧s'=⟨hp,g,d,tk,os⟩∧∃(vs ws:List Value) (ns' ms':List Int),rest=vs.zip ws ∧
   IntsAre vs ns'∧IntsAre ws ms'∧ns'.length+items2.size=ms'.length+items.size∧R (.ok (.ret (.bool (lexLt ns' ms')))) ⟨hp,g,d,tk,os⟩) _
  case turn=>
   rintro⟨y,x⟩ rest b s' ⟨hb',rfl,vs,ws,ns',ms',hz,hvi,hwi,hlen,hR⟩
   cases hvi with
   | nil=>rw [List.zip_nil_left] at hz;cases hz
   | cons a t hvi'=>
    cases hwi with
    | nil=>rw [List.zip_nil_right] at hz;cases hz
    | cons c u hwi'=>
     rw [List.zip_cons_cons] at hz
     injection hz with hyx hrest
     injection hyx with hy hx
     subst hy hx
     rw [lexLt_cons] at hR
     simp only [List.length_cons] at hlen
     obtain⟨e,he,hiff⟩:=AeB A.in1 ⟨hp,g,d,tk,os⟩ a t c u
     refine wpAny_bind (he prog w _ _ ?_)
     cases e with
     | true=>
      rw [if_pos (hiff.mp rfl)] at hR
      wp_walk
      exact⟨rfl,rfl,_,_,_,_,hrest,hvi',hwi',by omega,hR⟩
     | false=>
      rw [if_neg (fun q=>absurd (hiff.mpr q) Bool.false_ne_true)] at hR
      have hri:=AcJ A.in1 ⟨hp,g,d,tk,os⟩ a t c u prog w
      wp_walk using hri
      exact⟨_,rfl,by simpa using hR⟩
  case fin=>
   rintro⟨b1,b2⟩ s' ⟨hb',rfl,vs,ws,ns',ms',hz,hvi,hwi,hlen,hR⟩
   simp only at hb'
   subst hb'
   have hv:lexLt ns' ms'=decide (items.size<items2.size):=by
    cases hvi with
    | nil=>
     cases hwi with
     | nil=>
      simp only [List.length_nil] at hlen
      rw [lexLt_nil_nil]
      exact(decide_eq_false (by omega)).symm
     | cons c u hw=>
      simp only [List.length_nil,List.length_cons] at hlen
      rw [qR]
      exact(decide_eq_true (by omega)).symm
    | cons a t hv=>
     cases hwi with
     | nil=>
      simp only [List.length_nil,List.length_cons] at hlen
      rw [qS]
      exact(decide_eq_false (by omega)).symm
     | cons c u hw=>
      rw [List.zip_cons_cons] at hz
      cases hz
   rw [hv] at hR
   wp_walk
   exact⟨_,rfl,by simpa [Builtin.Tuple.tupleCompareSizes] using hR⟩
  case h=>
   exact⟨rfl,rfl,items.toList,items2.toList,ns,ms,rfl,hi,hj,by omega,h⟩
end
section
variable {prog:Program} {w:World} {A:Around} {E:Value→Shared→Prop} {s:Shared}
theorem lt_tupInts {l b:Addr} {items items2:Array Value} {ns ms:List Int} {Q:Value→Shared→Prop} (hl:IsTup s.heap l items) (hb:IsTup s.heap b items2) (hi:IntsAre items.toList ns) (hj:IntsAre items2.toList ms)
  (hu:A.units<cLine) (h:Q (.bool (lexLt ns ms)) s):wpAny (model prog w) A (compareOp .Lt (.ref l) (.ref b)) Q E s:=by
 obtain⟨⟨cls,dd,data,sl⟩,ho,hc,n,hd⟩:=id hl
 obtain⟨⟨cls2,dd2,data2,sl2⟩,ho2,hc2,n2,hd2⟩:=id hb
 simp only at hc hd hc2 hd2
 subst hc hd hc2 hd2
 exact richCompare_meets_room (op:=.Lt) ⟨_,ho,rfl⟩ ⟨_,ho2,rfl⟩ PySem.F.slot_tuple_lt PySem.F.entry_tuple_lt (PySem.F.args_tuple_lt_2 _ _) (rM l b items items2 n n2 dd dd2 sl sl2 ns ms hi hj)
  ⟨ho,ho2,show Value.bool (lexLt ns ms)≠Value.notImplemented∧Q (.bool (lexLt ns ms)) s from⟨(fun x=>nomatch x),h⟩⟩ hu
theorem cat_tup {t b:Addr} {vs ws:List Value} {Q:Value→Shared→Prop} (ht:IsTup s.heap t vs.toArray) (hb:IsTup s.heap b ws.toArray) (hv:vs≠[])
  (h1:ws=[]→Q (.ref t) s) (h2:ws≠[]→Q (.ref s.heap.objs.size) { s with heap:=s.heap.push { cls:=.type "tuple",data:=.seq (vs++ws).toArray } })
  (hsz:vs.length+ws.length≤sizeLine):wpAny (model prog w) A (binaryOp .Add (.ref t) (.ref b)) Q E s:=by
 obtain⟨⟨cls,dd,data,sl⟩,ho,hc,n,hd⟩:=id ht
 obtain⟨⟨cls2,dd2,data2,sl2⟩,ho2,hc2,n2,hd2⟩:=id hb
 simp only at hc hd hc2 hd2
 subst hc hd hc2 hd2
 have e:vs.toArray++ws.toArray=(vs++ws).toArray:=by simp
 by_cases hw:ws=[]
 ·exact concat_meets ⟨_,ho,rfl⟩ ⟨_,ho2,rfl⟩ noFill_tuple_add seq_tuple_add PySem.F.slot_tuple_add PySem.F.entry_tuple_add (PySem.F.args_tuple_add_2 _ _)
   (tuple_addW1 t b vs.toArray ws.toArray n n2 dd dd2 sl sl2 (by simpa using hv) (by simp [hw])) ⟨ho,ho2,h1 hw⟩
 ·refine concat_meets ⟨_,ho,rfl⟩ ⟨_,ho2,rfl⟩ noFill_tuple_add seq_tuple_add PySem.F.slot_tuple_add PySem.F.entry_tuple_add (PySem.F.args_tuple_add_2 _ _)
   (tuple_addW2 t b vs.toArray ws.toArray n n2 dd dd2 sl sl2 (by simpa using hv) (by simpa using hw) (by rw [List.size_toArray,List.size_toArray];exact hsz)) ⟨ho,ho2,?_⟩
  rw [e]
  exact h2 hw
def sIx (n d:Nat):Option Int→Nat
 | none=>d
 | some v=>if v<0 then(v+(n:Int)).toNat else min v.toNat n
theorem sIx_none (n d:Nat):sIx n d none=d:=rfl
theorem sIx_nat (n d k:Nat):sIx n d (some (k:Int))=min k n:=by
 show (if (k:Int)<0 then((k:Int)+(n:Int)).toNat else min (k:Int).toNat n)=min k n
 rw [if_neg (by omega),Int.toNat_natCast]
theorem sIx_le (n d:Nat) (hd:d≤n) (o:Option Int):sIx n d o≤n:=by
 cases o with
 | none=>exact hd
 | some v=>
  show (if v<0 then(v+(n:Int)).toNat else min v.toNat n)≤n
  by_cases hv:v<0
  ·rw [if_pos hv];omega
  ·rw [if_neg hv];exact Nat.min_le_right _ _
theorem zT (v:Int) (n d:Nat):(if v<0 then max (v+(n:Int)) 0 else min v (n:Int))=((sIx n d (some v):Nat):Int):=by
 show (if v<0 then max (v+(n:Int)) 0 else min v (n:Int))=(((if v<0 then(v+(n:Int)).toNat else min v.toNat n):Nat):Int)
 by_cases hv:v<0
 ·simp only [if_pos hv];omega
 ·simp only [if_neg hv];omega
theorem yC (lo hi:Option Int) (n:Nat):Builtin.Slice.sliceAdjust lo hi 1 (n:Int)=(((sIx n 0 lo:Nat):Int),((sIx n n hi:Nat):Int)):=by
 have h1:¬ ((1:Int)<0):=by omega
 unfold Builtin.Slice.sliceAdjust
 simp only [h1,if_false]
 refine Prod.ext ?_ ?_
 ·cases lo with
  | none=>rfl
  | some v=>exact zT v n 0
 ·cases hi with
  | none=>rfl
  | some v=>exact zT v n n
theorem xI (i j:Nat):Builtin.Slice.slicePlaces (i:Int) (j:Int) 1=j-i:=by
 unfold Builtin.Slice.slicePlaces
 have h1:(1:Int) > 0:=by omega
 simp only [h1,if_true,Int.ediv_one]
 split <;> omega
theorem pV {v:Value} {o:Option Int} {Q:Option Int→Shared→Prop} (p:IsPart v o) (h:Q o s):wpAny (model prog w) A (Builtin.Slice.slicePartIndex v) Q E s:=by
 cases p with
 | none=>exact slicePart_none h
 | int i t=>exact slicePart_int h
theorem gZ {sl:Addr} {vl vu:Value} {lo hi:Option Int} {n:Nat} {Q:Int × Int × Nat→Shared→Prop} (hs:s.heap.IsSliceOf sl vl vu .none) (pl:IsPart vl lo) (pu:IsPart vu hi)
  (h:Q (((sIx n 0 lo:Nat):Int),1,sIx n n hi-sIx n 0 lo) s):wpAny (model prog w) A (Builtin.Slice.sliceApplied (.ref sl) (pure (n:Int))) Q E s:=by
 obtain⟨os,hos,hcs,hds⟩:=id hs
 unfold Builtin.Slice.sliceApplied Builtin.Slice.sliceFields
 refine wpAny_bind (wpAny_bind (wpAny_field hos hds (x:=vl) rfl (wpAny_bind (wpAny_field hos hds (x:=vu) rfl (wpAny_bind (wpAny_field hos hds (x:=.none) rfl (wpAny_pure ?_)))))))
 refine wpAny_bind (slicePart_none ?_)
 show wpAny _ _ (if ((1:Int) == 0)=true then _ else _) _ _ s
 rw [if_neg (by decide)]
 refine wpAny_bind (pV pl (wpAny_bind (pV pu (wpAny_bind (wpAny_pure ?_)))))
 show wpAny _ _ (match Builtin.Slice.sliceAdjust lo hi 1 (n:Int) with|(lo,hi)=>pure (lo,(1:Int),Builtin.Slice.slicePlaces lo hi 1)) _ _ s
 rw [yC lo hi n]
 show wpAny _ _ (pure (((sIx n 0 lo:Nat):Int),(1:Int),Builtin.Slice.slicePlaces ((sIx n 0 lo:Nat):Int) ((sIx n n hi:Nat):Int) 1)) _ _ s
 rw [xI]
 exact wpAny_pure h
theorem AcR (xs:Array Value) (i k:Nat):((List.range k).filterMap fun(m:Nat)=>xs[((i:Int)+(m:Int) * 1).toNat]?).toArray=((xs.toList.drop i).take k).toArray:=by
 have e:(fun(m:Nat)=>xs[((i:Int)+(m:Int) * 1).toNat]?)=fun m=>xs[i+m]?:=by
  funext m
  have:((i:Int)+(m:Int) * 1).toNat=i+m:=by omega
  rw [this]
 rw [e]
 have:=pick_run xs i k
 rw [List.filterMap_map] at this
 have e2:((fun x=>xs[x]?) ∘ fun x=>i+x)=fun m=>xs[i+m]?:=rfl
 rw [e2] at this
 rw [this]
theorem getItem_tuple_cut {t sl:Addr} {items:Array Value} {vl vu:Value} {lo hi:Option Int} {Q:Value→Shared→Prop} (ht:IsTup s.heap t items) (hs:s.heap.IsSliceOf sl vl vu .none) (pl:IsPart vl lo) (pu:IsPart vu hi)
  (hw:¬ (sIx items.size 0 lo=0∧sIx items.size items.size hi=items.size))
  (h:Q (.ref s.heap.objs.size) { s with heap:=s.heap.push { cls:=.type "tuple",data:=.seq ((items.toList.drop (sIx items.size 0 lo)).take (sIx items.size items.size hi-sIx items.size 0 lo)).toArray } })
  (hsz:items.size≤sizeLine):wpAny (model prog w) A (getItem (.ref t) (.ref sl)) Q E s:=by
 have htake:sizeOk (.seq ((items.toList.drop (sIx items.size 0 lo)).take (sIx items.size items.size hi-sIx items.size 0 lo)).toArray):=by
  show ((items.toList.drop (sIx items.size 0 lo)).take (sIx items.size items.size hi-sIx items.size 0 lo)).toArray.size≤sizeLine
  rw [List.size_toArray,List.length_take,List.length_drop,Array.length_toList]
  omega
 have hj:sIx items.size items.size hi≤items.size:=sIx_le _ _ (Nat.le_refl _) hi
 obtain⟨os,hos,hcs,hds⟩:=id hs
 have hTs:s.TypeIs (.ref sl) "slice":=⟨os,hos,hcs⟩
 unfold getItem
 try with_reducible refine wpAny_holding ?_
 first|refine wpAny_bind (wpAny_pure ?_)|skip
 refine wpAny_bind (wpAny_sequenceKey ht.typeIs (by decide) ?_)
 refine wpAny_bind (wpAny_callSpecial?_slot (name:=Str.ofString "__getitem__") ht.typeIs PyProof.Rows.slot_tuple_getitem
  (wpAny_call_entry PyProof.Rows.slot_tuple_getitem ht.typeIs entry_tuple_getitem ?_ (args_tuple_getitem _ _)))
 show wpAny _ _ (Builtin.Tuple.tupleItemsOf (.ref t) >>= _) _ _ s
 refine wpAny_bind (tupleItemsOf_ ht ?_)
 refine wpAny_bind (wpAny_typeOf hTs ?_)
 rw [if_pos (by decide)]
 refine wpAny_bind (gZ hs pl pu ?_)
 have hno:¬ ((((sIx items.size 0 lo:Nat):Int) == 0 && (1:Int) == 1 && (sIx items.size items.size hi-sIx items.size 0 lo) == items.size)=true):=by
  intro q
  rw [Bool.and_eq_true,Bool.and_eq_true] at q
  have q1:((sIx items.size 0 lo:Nat):Int)=0:=eq_of_beq q.1.1
  have q2:sIx items.size items.size hi-sIx items.size 0 lo=items.size:=eq_of_beq q.2
  exact hw ⟨by omega,by omega⟩
 show wpAny _ _ (if (((sIx items.size 0 lo:Nat):Int) == 0 && (1:Int) == 1 && (sIx items.size items.size hi-sIx items.size 0 lo) == items.size)=true then _ else _) _ _ s
 rw [if_neg hno,AcR]
 first
  | exact wpAny_bind (m:=Builtin.Tuple.tupleExact _) (wpAny_newObj_type (wpAny_pure ⟨_,rfl,wpAny_pure h⟩) htake)
  | exact wpAny_bind (m:=Builtin.Tuple.tupleExact _) (wpAny_newObj_type (wpAny_bind (wpAny_pure (wpAny_pure ⟨_,rfl,wpAny_pure h⟩))) htake)
  | exact wpAny_bind (wpAny_bind (m:=Builtin.Tuple.tupleExact _) (wpAny_newObj_type (wpAny_pure (wpAny_pure ⟨_,rfl,wpAny_pure h⟩)) htake))
  | exact wpAny_bind (wpAny_bind (m:=Builtin.Tuple.tupleExact _) (wpAny_newObj_type (wpAny_pure ⟨_,rfl,wpAny_pure h⟩) htake))
end
end HT
namespace L2
open PySem PySem.Spec PyProof.Rows
abbrev TO:=St→Hp→(Option Int→Hp→Prop)→Prop
def PO (X:Cx) (e:Option Expr) (t:TO):Prop:=
 ∀(pins:List (Addr × Obj)) (s:Shared) (σ:St) (H:Hp) (Q:Option Int→Hp→Prop),Inv X pins σ H s→t σ H Q →
  wpAny (model X.prog X.w) X.A (evalPart e X.env) (fun u s'=>∃o H',Inv X pins σ H' s'∧IsPart u o∧Q o H') X.xe s
def tNoPart:TO:=fun _ H Q=>Q none H
def tPart (t:TE):TO:=fun σ H Q=>t σ H fun x H1=>∃i,x=.int i∧Q (some i) H1
theorem qW {ns:List Int}:∀{us:List Value},cB (ns.map V.int) us→IntsAre us ns:=by
 induction ns with
 | nil=>intro us r;rw [List.map_nil] at r;cases r;exact .nil
 | cons n ns ih=>
  intro us r
  rw [List.map_cons] at r
  cases r with
  | cons r1 r2=>
   obtain⟨t,e⟩:=r1
   subst e
   exact .cons n t (ih r2)
section
variable {X:Cx} {e:Expr} {te:TE} {lo hi:Option Expr} {tl th:TO} {pos p2:Pos}
theorem po_none:PO X none tNoPart:=by
 intro pins s σ H Q I h
 rw [evalPart_none]
 exact wpAny_pure ⟨none,H,I,.none,h⟩
theorem lD (h:PE X e te):PO X (some e) (tPart te):=by
 intro pins s σ H Q I hw
 rw [evalPart_some]
 refine thn (h pins s σ H _ I hw) fun u s1 ⟨x,H1,I1,r1,q1⟩=>?_
 obtain⟨i,rfl,q⟩:=q1
 obtain⟨t,rfl⟩:=r1
 exact⟨some i,H1,I1,.int i t,q⟩
def SlR (X:Cx) (r:V→Option Int→Option Int→Hp→VK→Prop):Prop:=
 ∀(pins:List (Addr × Obj)) (s:Shared) (σ:St) (H:Hp) (x:V) (v vl vu:Value) (lo hi:Option Int) (sl:Addr) (Q:VK),Inv X pins σ H s→cH x v→s.heap.IsSliceOf sl vl vu .none→IsPart vl lo→IsPart vu hi→r x lo hi H Q →
  ∃T id,typeLookup (.type T) "__getitem__"=pure (some (.builtin id))∧s.TypeIs v T∧wpAny (model X.prog X.w) X.A (getItem v (.ref sl)) (EP X pins σ Q) X.xe s
def tSl (r:V→Option Int→Option Int→Hp→VK→Prop) (te:TE) (tl th:TO):TE:=fun σ H Q=>te σ H fun x H1=>tl σ H1 fun l H2=>th σ H2 fun u H3=>r x l u H3 Q
theorem qI {r:V→Option Int→Option Int→Hp→VK→Prop} (hr:SlR X r) (he:PE X e te) (hl:PO X lo tl) (hu:PO X hi th):PE X (.Subscript e (.Slice lo hi none p2) pos) (tSl r te tl th):=by
 intro pins s σ H Q I h
 refine Subscript_ (thn (he pins s σ H _ I h) fun v s1 ⟨x,H1,I1,r1,q1⟩=>?_)
 refine wpAny_Slice (thn (hl pins s1 σ H1 _ I1 q1) fun vl s2 ⟨l,H2,I2,pl,q2⟩=>thn (hu pins s2 σ H2 _ I2 q2) fun vu s3 ⟨u,H3,I3,pu,q3⟩=>?_)
 rw [evalPart_none]
 refine wpAny_pure ?_
 have I4:Inv X pins σ H3 { s3 with heap:=s3.heap.push { cls:=.type "slice",data:=.fields #[vl,vu,.none] } }:=I3.kept (t':=s3.toks) fun b ob q=>Heap.get?_push_of_some _ q
 obtain⟨T,id,hT,ht,hg⟩:=hr pins { s3 with heap:=s3.heap.push { cls:=.type "slice",data:=.fields #[vl,vu,.none] } } σ H3 x v vl vu l u s3.heap.objs.size Q I4 r1 (Heap.IsSliceOf.new ..) pl pu q3
 show wpAny (model X.prog X.w) X.A (subscriptTail e (.Slice lo hi none p2) v (.ref s3.heap.objs.size)) (EP X pins σ Q) X.xe { s3 with heap:=s3.heap.push { cls:=.type "slice",data:=.fields #[vl,vu,.none] } }
 exact tail_any (ops:=[.ref s3.heap.objs.size,v]) ht hT hg (by with_unfolding_all rfl)
def nV (xs:List V) (lo hi:Option Int):List V:=(xs.drop (HT.sIx xs.length 0 lo)).take (HT.sIx xs.length xs.length hi-HT.sIx xs.length 0 lo)
theorem oM (xs:List V) (lo hi:Option Int):(nV xs lo hi).length≤xs.length:=by
 unfold nV
 rw [List.length_take,List.length_drop]
 omega
def rSlT (K:PySem.W.Frag):V→Option Int→Option Int→Hp→VK→Prop:=fun x lo hi H Q=>∃a xs,x=.ref a∧SqT K H a xs ∧
 ¬ (HT.sIx xs.length 0 lo=0∧HT.sIx xs.length xs.length hi=xs.length)∧∀p,H p=none→Q (.ref p) (upd H p (.tup (nV xs lo hi)))
theorem sl_tup:SlR X (rSlT X.K):=by
 intro pins s σ H x v vl vu lo hi sl Q I rx hs pl pu h
 obtain⟨a,xs,rfl,hx,hw,q⟩:=h
 cases rx
 obtain⟨its,r,ht,hz⟩:=I.tuple hx
 have hlen:its.toArray.size=xs.length:=by rw [List.size_toArray];exact r.length.symm
 refine⟨"tuple",_,PyProof.Rows.slot_tuple_getitem.lookup,ht.typeIs,?_⟩
 refine HT.getItem_tuple_cut ht hs pl pu (by rw [hlen];exact hw) ?_ (by rw [hlen];exact hz)
 rw [hlen]
 refine⟨.ref s.heap.objs.size,_,I.laid (t':=s.toks) (o:=.tup (nV xs lo hi)) (fun b ob q=>Heap.get?_push_of_some _ q) (Nat.le_refl _) ?_,rfl,q _ (I.hok.fresh (Nat.le_refl _))⟩
 exact⟨Nat.le_trans (oM xs lo hi) hz,_,(r.drop (HT.sIx xs.length 0 lo)).take (HT.sIx xs.length xs.length hi-HT.sIx xs.length 0 lo),IsTup.new _ _⟩
def rCatT (K:PySem.W.Frag):R2:=fun x y H Q=>∃a b xs ys,x=.ref a∧y=.ref b∧SqT K H a xs∧SqT K H b ys∧xs≠[]∧xs.length+ys.length≤sizeLine ∧
 (ys=[]→Q (.ref a) H)∧(ys≠[]→∀p,H p=none→Q (.ref p) (upd H p (.tup (xs++ys))))
theorem cB.nil_iff {xs:List V} {us:List Value} (r:cB xs us):us=[]↔xs=[]:=by
 cases r with
 | nil=>simp
 | cons _ _=>simp
theorem op_catT:OpR X (binaryOp .Add) (rCatT X.K):=by
 intro pins s σ H x y v u Q I rx ry h
 obtain⟨a,b,xs,ys,rfl,rfl,ha,hb,hx,hz,q1,q2⟩:=h
 cases rx
 cases ry
 obtain⟨its,r1,p1,_⟩:=I.tuple ha
 obtain⟨its2,r2,p2,_⟩:=I.tuple hb
 refine HT.cat_tup p1 p2 (fun z=>hx (r1.nil_iff.mp z)) (fun z=>⟨.ref a,H,I,rfl,q1 (r2.nil_iff.mp z)⟩) (fun z=>?_) (by rw [← r1.length,← r2.length];exact hz)
 refine⟨.ref s.heap.objs.size,_,I.laid (t':=s.toks) (o:=.tup (xs++ys)) (fun b ob q=>Heap.get?_push_of_some _ q) (Nat.le_refl _) ?_,rfl,q2 (fun w=>z (r2.nil_iff.mpr w)) _ (I.hok.fresh (Nat.le_refl _))⟩
 exact⟨by rw [List.length_append];exact hz,_,r1.append r2,IsTup.new _ _⟩
end
def ixN (n:Nat) (i:Int):Option Nat:=if 0≤i then(if i<n then some i.toNat else none) else if -(n:Int)≤i then some (i+n).toNat else none
def atI {α:Type} (xs:List α) (i:Int):Option α:=(ixN xs.length i).bind fun j=>xs[j]?
theorem zG {n:Nat} {i:Int} {j:Nat} (h:ixN n i=some j):seqIndex? i n=some j∧j<n∧-(n:Int)≤i∧i<n:=by
 unfold ixN at h
 by_cases h0:0≤i
 ·rw [if_pos h0] at h
  by_cases h1:i<n
  ·rw [if_pos h1] at h
   have e:i.toNat=j:=Option.some.inj h
   exact⟨by rw [seqIndex_of h0 h1,e],by omega,by omega,h1⟩
  ·rw [if_neg h1] at h;cases h
 ·rw [if_neg h0] at h
  by_cases h1:-(n:Int)≤i
  ·rw [if_pos h1] at h
   have e:(i+n).toNat=j:=Option.some.inj h
   exact⟨by rw [seqIndex_neg (by omega) h1,e],by omega,h1,by omega⟩
  ·rw [if_neg h1] at h;cases h
theorem zW {α:Type} {xs:List α} {i:Int} {v:α} (h:atI xs i=some v):∃j,seqIndex? i xs.length=some j∧xs[j]?=some v∧j<xs.length∧-(xs.length:Int)≤i∧i<xs.length:=by
 unfold atI at h
 cases e:ixN xs.length i with
 | none=>rw [e] at h;cases h
 | some j=>
  rw [e] at h
  obtain⟨h1,h2,h3,h4⟩:=zG e
  exact⟨j,h1,h,h2,h3,h4⟩
theorem aM {α:Type} {xs:List α} {j:Nat} {v:α} (h:xs[j]?=some v):atI xs (j:Int)=some v:=by
 have hj:j<xs.length:=(List.getElem?_eq_some_iff.mp h).1
 have e:ixN xs.length (j:Int)=some j:=by
  unfold ixN
  rw [if_pos (by omega),if_pos (by omega)];simp
 unfold atI;rw [e];exact h
theorem rG {α:Type} (xs:List α) (v:α):atI (xs++[v]) (-1)=some v:=by
 have hl:(xs++[v]).length=xs.length+1:=by simp
 have e:ixN (xs++[v]).length (-1)=some xs.length:=by
  unfold ixN
  rw [hl,if_neg (by decide),if_pos (by omega)]
  congr 1
  omega
 unfold atI
 rw [e]
 show (xs++[v])[xs.length]?=some v
 simp
def zY (b:Expr):Prop:=∀o i,subscripted b false o i=operate [o,i] (getItem o i)
def IxR (X:Cx) (r:R2):Prop:=
 ∀(value slice:Expr) (pins:List (Addr × Obj)) (s:Shared) (σ:St) (H:Hp) (x y:V) (v u:Value) (Q:VK),Inv X pins σ H s→cH x v→cH y u→r x y H Q →
  subscripted slice false v u=operate [v,u] (getItem v u)→wpAny (model X.prog X.w) X.A (subscriptTail value slice v u) (EP X pins σ Q) X.xe s
def MtR (X:Cx) (id:String) (r:V→List V→Hp→VK→Prop):Prop:=
 ∀(pins:List (Addr × Obj)) (s:Shared) (σ:St) (H:Hp) (x:V) (xs:List V) (v:Value) (us:List Value) (Q:VK),Inv X pins σ H s→cH x v→cB xs us→r x xs H Q →
  wpAny (model X.prog X.w) X.A (call (.builtin id) (v::us)) (EP X pins σ Q) X.xe s
section
variable {X:Cx} {a b:Expr} {ta tb:TE} {pos:Pos}
theorem aX {r:R2} (hr:IxR X r) (ha:PE X a ta) (hb:PE X b tb) (hs:zY b):PE X (.Subscript a b pos) (tOp r ta tb):=by
 intro pins s σ H Q I h
 exact Subscript_ (binT ha hb I h fun v u s2 x y H2 I2 rx ry q=>hr a b pins s2 σ H2 x y v u Q I2 rx ry q (hs _ _))
def rIxL (K:PySem.W.Frag):R2:=fun x y H Q=>∃p xs i v,x=.ref p∧y=.int i∧SqL K H p xs∧atI xs i=some v∧Q v H
def kI (K:PySem.W.Frag):R2:=fun x y H Q=>∃p xs i v,x=.ref p∧y=.int i∧SqT K H p xs∧atI xs i=some v∧Q v H
theorem bE:IxR X (rIxL X.K):=by
 intro value slice pins s σ H x y v u Q I rx ry h hs
 obtain⟨p,xs,i,z,rfl,rfl,hq,he,q⟩:=h
 cases rx
 obtain⟨t,rfl⟩:=ry
 obtain⟨its,r,pl,hz⟩:=I.list hq
 obtain⟨j,h1,h2,h3,h4,h5⟩:=zW he
 obtain⟨w,ew,rw'⟩:=r.get h2
 have hl:=r.length
 have hn:=nG
 have fin:EP X pins σ Q w s:=⟨z,H,I,rw',q⟩
 by_cases h0:0≤i
 ·have hj:i.toNat=j:=by
   rw [seqIndex_of h0 h5] at h1
   exact Option.some.inj h1
  exact item_listR pl.isList h0 (by omega) (by rw [hj];simpa using ew) fin hs
 ·have hj:(i+(its.toArray.size:Int)).toNat=j:=by
   rw [seqIndex_neg (by omega) h4] at h1
   rw [List.size_toArray,← hl]
   exact Option.some.inj h1
  exact subscriptTail_builtinR (x:=w) pl.isList.typeIs slot_list_getitem.lookup
   (wpAny_getItem_list_neg (Q:=fun r s'=>r=w∧EP X pins σ Q r s') pl.isList (by omega) (by rw [List.size_toArray] <;> omega) (by omega) (by rw [hj];simpa using ew) ⟨rfl,fin⟩) hs
theorem cI:IxR X (kI X.K):=by
 intro value slice pins s σ H x y v u Q I rx ry h hs
 obtain⟨p,xs,i,z,rfl,rfl,hq,he,q⟩:=h
 cases rx
 obtain⟨t,rfl⟩:=ry
 obtain⟨its,r,pl,hz⟩:=I.tuple hq
 obtain⟨j,h1,h2,h3,h4,h5⟩:=zW he
 obtain⟨w,ew,rw'⟩:=r.get h2
 have hl:=r.length
 have hn:=nG
 have fin:EP X pins σ Q w s:=⟨z,H,I,rw',q⟩
 exact subscriptTail_builtinR (x:=w) pl.typeIs slot_tuple_getitem.lookup
  (getItem_tuple (j:=j) (Q:=fun r s'=>r=w∧EP X pins σ Q r s') pl (by omega) (by omega) (by rw [List.size_toArray,← hl];exact h1) (by simpa using ew) ⟨rfl,fin⟩) hs
theorem xT (its:List Value) (n j:Nat) (u:Value):Obj.mapSeq (·.setIfInBounds j u) { cls:=.type "list",data:=.seq its.toArray n }={ cls:=.type "list",data:=.seq (its.set j u).toArray n }:=by
 simp [Obj.mapSeq]
theorem Inv.lst {pins:List (Addr × Obj)} {σ:St} {H:Hp} {s:Shared} {p:Addr} {xs:List V} (I:Inv X pins σ H s) (h:H p=some (.lst xs)):
  ∃(its:List Value) (n:Nat),cB xs its∧s.heap.get? p=some { cls:=.type "list",data:=.seq its.toArray n }∧xs.length≤sizeLine:=by
 obtain⟨z,its,n,r,e⟩:=I.hok p _ h
 exact⟨its,n,r,e,z⟩
theorem Inv.lstUpd {pins:List (Addr × Obj)} {σ:St} {H:Hp} {s:Shared} {p:Addr} {xs ys:List V} {its its':List Value} {n n':Nat} {f:Obj→Obj} (I:Inv X pins σ H s) (h:H p=some (.lst xs))
  (ho:s.heap.get? p=some { cls:=.type "list",data:=.seq its.toArray n }) (hf:f { cls:=.type "list",data:=.seq its.toArray n }={ cls:=.type "list",data:=.seq its'.toArray n' }) (r:cB ys its') (hz:ys.length≤sizeLine) (t:Nat):
  Inv X pins σ (upd H p (.lst ys)) { s with heap:=s.heap.update p f,toks:=t }:=by
 have e:(s.heap.update p f).get? p=some { cls:=.type "list",data:=.seq its'.toArray n' }:=by
  rw [Heap.get?_update_self f ho (by rw [hf] <;> rfl),hf]
 refine I.write (x:=p) (e:=p) (by rw [h];trivial) (.inl rfl) (fun b u hb q=>(Heap.get?_update_other _ _ (Ne.symm hb)).trans q) ⟨_,e⟩ ?_
 exact⟨hz,its',n',r,e⟩
def rSetL:V→V→V→Hp→(Hp→Prop)→Prop:=fun o i v H Q=>∃p xs k j,o=.ref p∧i=.int k∧H p=some (.lst xs)∧ixN xs.length k=some j∧Q (upd H p (.lst (xs.set j v)))
theorem pY:PSet X rSetL:=by
 intro pins s σ H o i v ov iv u Q I ro ri rv h
 obtain⟨p,xs,k,j,rfl,rfl,hp,hj,q⟩:=h
 cases ro
 obtain⟨t,rfl⟩:=ri
 obtain⟨its,n,r,ho,hz⟩:=I.lst hp
 obtain⟨h1,h2,h3,h4⟩:=zG hj
 have hl:=r.length
 have hn:=nG
 have I':Inv X pins σ (upd H p (.lst (xs.set j v))) { s with heap:=s.heap.update p (Obj.mapSeq (·.setIfInBounds j u)) }:=
  I.lstUpd hp ho (xT its n j u) (r.set rv j) (by rw [List.length_set];exact hz) s.toks
 by_cases h0:0≤k
 ·have hk:k.toNat=j:=by
   rw [seqIndex_of h0 h4] at h1
   exact Option.some.inj h1
  exact PySem.W.ki_setAt ho h0 (by omega) (by rw [List.size_toArray,← hl];exact h4) (by rw [hk];exact⟨_,I',q⟩)
 ·have hk:(k+(its.toArray.size:Int)).toNat=j:=by
   rw [seqIndex_neg (by omega) h3] at h1
   rw [List.size_toArray,← hl]
   exact Option.some.inj h1
  exact PySem.W.ki_setBack ho (by omega) (by rw [List.size_toArray,← hl];exact h3) (by omega) (by rw [hk];exact⟨_,I',q⟩)
theorem uD (lo hi:Option Int) (n:Nat):(sliceBounds lo hi none n).1=((HT.sIx n 0 lo:Nat):Int)∧(sliceBounds lo hi none n).2.1=((HT.sIx n n hi:Nat):Int)∧(sliceBounds lo hi none n).2.2=1:=by
 refine⟨?_,?_,rfl⟩
 ·cases lo with
  | none=>simp [sliceBounds,HT.sIx]
  | some i=>
   simp only [sliceBounds,HT.sIx,Option.getD_none,show (1:Int) > 0 by decide,if_true]
   by_cases h:i<0
   ·simp only [h,if_true] <;> omega
   ·simp only [h,if_false] <;> omega
 ·cases hi with
  | none=>simp [sliceBounds,HT.sIx]
  | some i=>
   simp only [sliceBounds,HT.sIx,Option.getD_none,show (1:Int) > 0 by decide,if_true]
   by_cases h:i<0
   ·simp only [h,if_true] <;> omega
   ·simp only [h,if_false] <;> omega
theorem rN (its:List Value) (lo hi:Option Int):slicePick its.toArray lo hi none=((its.drop (HT.sIx its.length 0 lo)).take (HT.sIx its.length its.length hi-HT.sIx its.length 0 lo)).toArray:=by
 obtain⟨h1,h2,h3⟩:=uD lo hi its.toArray.size
 unfold slicePick
 rw [h1,h2,h3]
 simp only [sliceRange_one,pick_run,List.size_toArray] <;> rfl
def rSlL (K:PySem.W.Frag):V→Option Int→Option Int→Hp→VK→Prop:=fun x lo hi H Q=>∃a xs,x=.ref a∧SqL K H a xs∧∀p,H p=none→Q (.ref p) (upd H p (.lst (nV xs lo hi)))
theorem yK:SlR X (rSlL X.K):=by
 intro pins s σ H x v vl vu lo hi sl Q I rx hs pl pu h
 obtain⟨a,xs,rfl,hx,q⟩:=h
 cases rx
 obtain⟨its,r,ht,hz⟩:=I.list hx
 have hlen:=r.length
 refine⟨"list",_,slot_list_getitem.lookup,ht.isList.typeIs,?_⟩
 refine wpAny_getItem_list_slice ht.isList hs pl pu .none (by simp) ?_ (by rw [List.size_toArray] <;> omega)
 rw [rN,← hlen]
 refine⟨.ref s.heap.objs.size,_,I.laid (t':=s.toks) (o:=.lst (nV xs lo hi)) (fun b ob q=>Heap.get?_push_of_some _ q) (Nat.le_refl _) ?_,rfl,q _ (I.hok.fresh (Nat.le_refl _))⟩
 exact⟨Nat.le_trans (oM xs lo hi) hz,_,0,(r.drop (HT.sIx xs.length 0 lo)).take (HT.sIx xs.length xs.length hi-HT.sIx xs.length 0 lo),Heap.get?_push_size _ rfl⟩
theorem cD:gP X (.builtin "len") (fun xs H Q=>∃p ys,xs=[.ref p]∧(SqL X.K H p ys∨SqT X.K H p ys)∧Q (.int ys.length) H):=by
 intro pins s σ H xs us Q I r h
 obtain⟨p,ys,rfl,hq,q⟩:=h
 obtain⟨u,rfl,rx⟩:=jV r
 cases rx
 have hn:=nG
 rcases hq with hq|hq
 ·obtain⟨its,r',pl,hz⟩:=I.list hq
  have hlen:=r'.length
  exact Calls.call_len_list pl.isList (by simp only [List.size_toArray] <;> omega) ⟨.int ys.length,H,I.tok _,⟨s.toks+1,by rw [List.size_toArray,hlen]⟩,q⟩
 ·obtain⟨its,r',pl,hz⟩:=I.tuple hq
  have hlen:=r'.length
  exact len_tuple pl (by simp only [List.size_toArray] <;> omega) ⟨.int ys.length,H,I.tok _,⟨s.toks+1,by rw [List.size_toArray,hlen]⟩,q⟩
theorem uT:gP X (.builtin "len") (fun xs H Q=>∃z,xs=[.str z]∧z.length≤sizeLine∧Q (.int z.length) H):=by
 intro pins s σ H xs us Q I r h
 obtain⟨z,rfl,hz,q⟩:=h
 obtain⟨u,rfl,t,rfl⟩:=jV r
 have hn:=nG
 exact len_str (by omega) ⟨.int z.length,H,I.tok _,⟨_,rfl⟩,q⟩
theorem lM:gP X (.type "list") (fun xs H Q=>∃p ys,xs=[.ref p]∧(SqL X.K H p ys∨SqT X.K H p ys)∧∀l,H l=none→Q (.ref l) (upd H l (.lst ys))):=by
 intro pins s σ H xs us Q I r h
 obtain⟨p,ys,rfl,hq,q⟩:=h
 obtain⟨u,rfl,rx⟩:=jV r
 cases rx
 have fin:∀(its:List Value),cB ys its→ys.length≤sizeLine→∀(h':Heap) (c':Nat),(∀b o',s.heap.get? b=some o'→h'.get? b=some o') →
   h'.get? s.heap.objs.size=some { cls:=.type "list",dict:=none,data:=.seq its.toArray c',slots:=#[] }→EP X pins σ Q (.ref s.heap.objs.size) { s with heap:=h' }:=fun its r' hz h' c' kp e=>
  ⟨.ref s.heap.objs.size,_,I.laid (t':=s.toks) kp (Nat.le_refl _) (show cE X.prog X.w _ h' _ (.lst ys) from⟨hz,its,c',r',e⟩),rfl,q _ (I.hok.fresh (Nat.le_refl _))⟩
 rcases hq with hq|hq
 ·obtain⟨its,r',pl,hz⟩:=I.list hq
  have hlen:=r'.length
  obtain⟨o,ho,hc,n,hd⟩:=pl.isList
  exact call_list_seq p (.inl rfl) ho hc hd (fun h' c' kp e=>fin its r' hz h' c' kp e) (by simp only [List.size_toArray] <;> omega)
 ·obtain⟨its,r',pl,hz⟩:=I.tuple hq
  have hlen:=r'.length
  obtain⟨o,ho,hc,n,hd⟩:=pl
  exact call_list_seq p (.inr rfl) ho hc hd (fun h' c' kp e=>fin its r' hz h' c' kp e) (by simp only [List.size_toArray] <;> omega)
theorem dA:gP X (.type "tuple") (fun xs H Q=>∃p ys,xs=[.ref p]∧((SqL X.K H p ys∧∀l,H l=none→Q (.ref l) (upd H l (.tup ys)))∨(SqT X.K H p ys∧Q (.ref p) H))):=by
 intro pins s σ H xs us Q I r h
 obtain⟨p,ys,rfl,h⟩:=h
 obtain⟨u,rfl,rx⟩:=jV r
 cases rx
 rcases h with ⟨hq,q⟩|⟨hq,q⟩
 ·obtain⟨its,r',pl,hz⟩:=I.list hq
  have hlen:=r'.length
  refine call_tuple_list pl.isList (fun h' kp=>?_) (by simp only [List.size_toArray] <;> omega)
  have I1:Inv X pins σ H { s with heap:=h' }:=I.kept (t':=s.toks) kp
  have I2:Inv X pins σ (upd H h'.objs.size (.tup ys)) { s with heap:=h'.push { cls:=.type "tuple",data:=.seq its.toArray } }:=
   I1.laid (t':=s.toks) (fun b o e=>Heap.get?_push_of_some _ e) (Nat.le_refl _) (show cE X.prog X.w _ _ _ (.tup ys) from⟨hz,its,r',IsTup.new _ _⟩)
  exact⟨.ref h'.objs.size,_,I2,rfl,q _ (I1.hok.fresh (Nat.le_refl _))⟩
 ·obtain⟨its,r',pl,hz⟩:=I.tuple hq
  exact call_tuple_same pl ⟨.ref p,H,I,rfl,q⟩
def tyV (K:PySem.W.Frag) (T:String) (x:V) (H:Hp):Prop:=match x with
 | .str _=>T="str"
 | .int _=>T="int"
 | .ref p=>(T="list"∧∃xs,SqL K H p xs)∨(T="tuple"∧∃o,K.lookup p=some o∧o.cls=.type "tuple"∧o.dict=none) ∨
   (T="dict"∧((∃kvs,H p=some (.dK kvs))∨∃kvs,H p=some (.dT kvs)))∨(T="set"∧∃S n,H p=some (.set S n))
 | _=>False
theorem AbT {pins:List (Addr × Obj)} {σ:St} {H:Hp} {s:Shared} {T:String} {x:V} {v:Value} (I:Inv X pins σ H s) (r:cH x v) (ty:tyV X.K T x H):
  s.TypeIs v T∧∀a,v=.ref a→∃ob,s.heap.get? a=some ob∧ob.dict=none:=by
 cases x with
 | str z=>
  obtain⟨t,rfl⟩:=r
  cases (show T="str" from ty)
  exact⟨typeIs_str s z t,fun _ e=>nomatch e⟩
 | int i=>
  obtain⟨t,rfl⟩:=r
  cases (show T="int" from ty)
  exact⟨typeIs_int s i t,fun _ e=>nomatch e⟩
 | ref p=>
  cases r
  rcases ty with ⟨rfl,xs,hq⟩|⟨rfl,o,hk,hc,hd⟩|⟨rfl,hk⟩|⟨rfl,S,n,hk⟩
  ·obtain⟨its,_,pl,_⟩:=I.list hq
   refine⟨pl.isList.typeIs,fun a e=>?_⟩
   cases e
   obtain⟨o,n,e,c,hd,_⟩:=pl
   exact⟨o,e,hd⟩
  ·refine⟨⟨o,I.kIn p o hk,hc⟩,fun a e=>?_⟩
   cases e
   exact⟨o,I.kIn _ o hk,hd⟩
  ·have z:∃o,s.heap.get? p=some o∧o.ExactDict:=by
    rcases hk with ⟨kvs,hk⟩|⟨kvs,hk⟩
    ·obtain⟨_,_,_,_,o,_,_,e,ex,_⟩:=I.hok p _ hk
     exact⟨o,e,ex⟩
    ·obtain⟨_,_,_,_,o,_,_,e,ex,_⟩:=I.hok p _ hk
     exact⟨o,e,ex⟩
   obtain⟨o,e,ex⟩:=z
   refine⟨⟨o,e,ex.1⟩,fun a e2=>?_⟩
   cases e2
   exact⟨o,e,ex.2.1⟩
  ·obtain⟨o,_,_,_,e,ex,_⟩:=I.hok p _ hk
   refine⟨⟨o,e,ex.1⟩,fun a e2=>?_⟩
   cases e2
   exact⟨o,e,ex.2.1⟩
 | _=>exact False.elim ty
def tBM0 (K:PySem.W.Frag) (T:String) (r:V→List V→Hp→VK→Prop) (to:TE):TE:=fun σ H Q=>to σ H fun x H1=>tyV K T x H1∧r x [] H1 Q
def tBM (K:PySem.W.Frag) (T:String) (r:V→List V→Hp→VK→Prop) (to:TE) (t:TA):TE:=fun σ H Q=>to σ H fun x H1=>tyV K T x H1∧t σ H1 fun xs H2=>r x xs H2 Q
variable {o e:Expr} {es:List Expr} {to:TE} {t:TA} {name:Str} {apos cpos:Pos} {T id:String} {r:V→List V→Hp→VK→Prop}
theorem pe_bm0 (pa:PlainAttrs T) (slot:Slot T name id) (hty:typeOf (.builtin id)=pure (.type "method_descriptor")) (hm:MtR X id r) (ho:PE X o to)
  (hbase:attributeBase o name X.env (eval o X.env)=eval o X.env:=by rfl) (hline:(apos.endLine == cpos.line)=true:=by rfl):PE X (.Call (.Attribute o name apos) [] [] cpos) (tBM0 X.K T r to):=by
 intro pins s σ H Q I h
 refine wpAny_Call_method0_late hbase hline (thn (ho pins s σ H _ I h) fun v s1 ⟨x,H1,I1,r1,ty,q1⟩=>?_)
 obtain⟨h1,h2⟩:=AbT I1 r1 ty
 exact⟨T,id,pa,slot,hty,h1,h2,Calls.callWith_builtin rfl (PySem.evalArgs_none (hm pins s1 σ H1 x [] v [] Q I1 r1 .nil q1))⟩
theorem oC (pa:PlainAttrs T) (slot:Slot T name id) (hty:typeOf (.builtin id)=pure (.type "method_descriptor")) (hm:MtR X id r) (ho:PE X o to) (ha:PA X (e::es) t)
  (hbase:attributeBase o name X.env (eval o X.env)=eval o X.env:=by rfl)
  (hfew:((backTo cpos (starEach (e::es) X.env)).all (fun x=>!x.1) && (backToKw cpos (keywordEach [] X.env)).all (fun x=>x.1.isSome)
   && decide ((e::es).length+([]:List Keyword).length+(if ([]:List Keyword).isEmpty then 0 else 1)<30))=true:=by rfl)
  (hline:(apos.endLine == cpos.line)=true:=by rfl) (hs:starEach (e::es) X.env=(false,eval e X.env)::starEach es X.env:=by rfl) (hplain:(backTo cpos (starEach es X.env)).any (·.1)=false:=by rfl):
  PE X (.Call (.Attribute o name apos) (e::es) [] cpos) (tBM X.K T r to t):=by
 intro pins s σ H Q I h
 refine wpAny_Call_method_late hbase hfew hline rfl (thn (ho pins s σ H _ I h) fun v s1 ⟨x,H1,I1,r1,ty,q1⟩=>?_)
 obtain⟨h1,h2⟩:=AbT I1 r1 ty
 refine⟨T,id,pa,slot,hty,h1,h2,?_⟩
 have hA:=ha cpos pins s1 σ H1 _ I1 q1
 rw [hs] at hA ⊢
 refine Calls.callWith_builtin (by show (false || (backTo cpos (starEach es X.env)).any (·.1))=false;rw [hplain] <;> rfl) (Calls.evalArgs_plain ?_)
 exact thn hA fun us s2 ⟨vs,H2,I2,r2,q2⟩=>hm pins s2 σ H2 x vs v us Q I2 r1 r2 q2
end
def MtM (X:Cx) (id:String) (r:V→List V→Hp→VK→Prop):Prop:=
 ∀(pins:List (Addr × Obj)) (s:Shared) (σ:St) (H:Hp) (x:V) (xs:List V) (v:Value) (us:List Value) (Q:VK),Inv X pins σ H s→cH x v→cB xs us→r x xs H Q →
  wpAny (model X.prog X.w) X.A (call (.builtin id) (v::us)) (EP X pins σ Q) X.xe s
theorem cB.one:∀{x:V} {us:List Value},cB [x] us→∃u,us=[u]∧cH x u
 | _,_,.cons r .nil=>⟨_,rfl,r⟩
theorem cB.zero:∀{us:List Value},cB [] us→us=[]
 | _,.nil=>rfl
section
variable {X:Cx} {pins:List (Addr × Obj)} {σ:St} {H:Hp} {s:Shared} {l b:Addr} {xs ys zs:List V}
theorem Inv.lset {its its':List Value} {n:Nat} {f:Array Value→Array Value} {t':Nat} (I:Inv X pins σ H s) (hH:H l=some (.lst xs))
  (e:s.heap.get? l=some { cls:=.type "list",data:=.seq its.toArray n }) (hf:f its.toArray=its'.toArray) (hv:cB ys its') (hz:ys.length≤sizeLine):
  Inv X pins σ (upd H l (.lst ys)) { s with heap:=s.heap.update l (Obj.mapSeq f),toks:=t' }:=by
 have q:=PySem.IsL.update e f
 rw [hf] at q
 refine I.write (x:=l) (e:=l) (by rw [hH];exact trivial) (.inl rfl) (fun b' u hb hu=>(Heap.get?_update_other s.heap (Obj.mapSeq f) (Ne.symm hb)).trans hu) ⟨_,q⟩ ?_
 exact⟨hz,its',_,hv,q⟩
theorem Inv.lstM (I:Inv X pins σ H s) (hH:H l=some (.lst xs)):xs.length≤sizeLine∧∃(its:List Value) (n:Nat),cB xs its∧xs.length=its.length∧s.heap.get? l=some { cls:=.type "list",data:=.seq its.toArray n }:=by
 obtain⟨z,its,n,r,e⟩:=I.hok l _ hH
 exact⟨z,its,n,r,r.length,e⟩
end
section
variable {X:Cx}
def yQ:V→List V→Hp→VK→Prop:=fun x vs H Q=>∃l xs y,x=.ref l∧vs=[y]∧H l=some (.lst xs)∧xs.length<sizeLine∧Q .non (upd H l (.lst (xs++[y])))
theorem dN:MtM X "list.append" yQ:=by
 intro pins s σ H x vs v us Q I rx rv h
 obtain⟨l,xs,y,rfl,rfl,hH,hz,q⟩:=h
 cases rx
 obtain⟨u,rfl,ru⟩:=rv.one
 obtain⟨z,its,n,r,hl,e⟩:=I.lstM hH
 refine call_meets F.slot_list_append ⟨_,e,rfl⟩ F.entry_list_append (F.args_list_append_2 _ _) (PySem.list_append l its.toArray n u (by rw [List.size_toArray];omega)) ⟨e,?_⟩
 refine⟨.non,_,I.lset (its':=its++[u]) hH e (by simp) (r.append (.cons ru .nil)) ?_,rfl,q⟩
 rw [List.length_append,List.length_singleton]
 omega
end
section
variable {prog:Program} {w:World} {A:Around} {E:Value→Shared→Prop} {s:Shared}
set_option maxRecDepth 100000 in
end
section
variable {X:Cx}
end
end L2
namespace Att
open PySem PySem.W PySem.Calls PyProof.Rows
theorem oO {P:Params} {h:Heap}:∀(ns:List Int) (vs:List Value),WellAll P h vs (ns.map WData.int)→IntsAre vs ns:=by
 intro ns
 induction ns with
 | nil=>
  intro vs w
  rw [List.map_nil] at w
  cases w
  exact .nil
 | cons n ns ih=>
  intro vs w
  rw [List.map_cons] at w
  cases w with
  | cons a b=>
   cases a
   exact .cons _ _ (ih _ b)
theorem AaF {l:OpenLaw} {n:Nat} (hn:l.most=some n) {P:Params} {h:Heap} {args:List WData} {vals:List Value}
  (hpre:l.row.toRowW.claim.pre args=true) (hwl:WellAll P h vals args):
  ∃a vs ns,vals=[Value.ref a]∧args=[WData.list (ns.map WData.int)]∧h.get? a=some { cls:=.type "list",data:=.seq vs.toArray }∧IntsAre vs ns∧ns.length≤n:=by
 have hsh:WShape.hasAll [] args [.list .int]=true:=(pre_splitW hpre).1
 have hc:l.pre.holds [] { args:=args }=true:=(pre_splitW hpre).2
 obtain⟨d,r,rfl,h1,h2⟩:=hasAllW_cons hsh
 obtain rfl:=hasAllW_nil h2
 obtain⟨xs,rfl,h3⟩:=hasW_list h1
 obtain⟨ns,rfl⟩:=items_int h3
 have hlen:ns.length≤n:=by
  unfold OpenLaw.pre at hc
  have h4:(WTm.not (.lt (.lit (.int (n:Int))) (.len (.arg 0)))).holds [] { args:=[.list (ns.map .int)] }=true:=by
   have h4:=(holds_andW hc).1
   rw [hn] at h4
   exact h4
  have h5:=condW_of h4 (w_not (w_lt w_lit (w_len_list (w_arg rfl))))
  rw [List.length_map] at h5
  refine Nat.le_of_not_lt fun q=>?_
  have q':(n:Int)<((ns.length:Nat):Int):=by omega
  first
   | (rw [decide_eq_true q'] at h5;exact absurd h5 (by decide))
   | (simp at h5;omega)
 cases hwl with
 | cons w1 w2=>
  cases w2
  cases w1 with
  | list ho hall=>exact⟨_,_,ns,rfl,rfl,ho,oO ns _ hall,hlen⟩
theorem AaJ (l:OpenLaw) (args:List WData):l.row.toRowW.claim.post args (.bool true) args=true:=
 postW_of (r:=l.row.toRowW) (X:=(true == true))
  (show WShape.has [] (.bool true) .bool=true by first|rfl|decide|simp [WShape.has,WShape.arms,WShape.armsAll])
  (show (WTm.eq .res (.lit (.bool true))).value [] { args:=args,res:=some (.bool true),after:=args }=some (.bool (true == true)) from w_eq_bool (w_res rfl) w_lit) rfl
theorem attach_call {l:OpenLaw} {n:Nat} {q:Program} {loose:List Str} {XP:(Str→Option Value)→Heap→Prop} {YP:World→Heap→Prop} {d:DefRec}
  (hn:l.most=some n) (hdf:d.params.defaults=[])
  (call:∀(w:World) (s₀ s₁:Shared) (mg mb:Str→Option Value) (fa:Addr) (o:Obj) (pm cd doc:Value) (a:Addr) (vs:List Value) (ns:List Int),
   Ground q loose [] XP w s₀ mg mb s₁.heap→YP w s₁.heap →
   s₁.heap.get? fa=some o→o.data=.func (docDef d.name d.params d.body d.scope pm cd doc)→s₁.heap.CodeRec cd d.name→mg d.name=some (.ref fa) →
   s₁.heap.get? a=some { cls:=.type "list",data:=.seq vs.toArray }→IntsAre vs ns→ns.length≤n→s₁.gens=#[] →
   codeAny (model l.prog w) callerA (.call (.ref fa) ⟨[.ref a],[]⟩) (fun r s'=>r=.ok (.ret (.bool true))∧OldK s₁.heap s'.heap∧s'.os=s₁.os∧AllBare s'.gens) s₁):
  WalkO q loose XP YP l.row.toRowW d [] (fun f vs=>PySem.call f vs):=by
 intro w s₀ s₁ mg mb G Y fa o pm cd doc dV kV ho hd hcd hD hmg hg args vals as hpre hlay hrd hwl hlo
 obtain rfl:dV=.none:=Dflts.none hD hdf
 obtain rfl:kV=.none:=Dflts.noKw hD
 obtain⟨a,vs,ns,rfl,rfl,hobj,hints,hlen⟩:=AaF hn hpre hwl
 refine enter_call (codeAny_mono (call w s₀ s₁ mg mb fa o pm cd doc a vs ns G Y ho (fd_plain hd) hcd hmg hobj hints hlen hg) fun r s' hq=>?_)
 obtain⟨rfl,h2,h3,h4⟩:=hq
 exact⟨.inl ⟨.bool true,.bool true,[],rfl,fun _=>rfl,.bool true,AaJ l _,fun _=>⟨List.Pairwise.nil,fun _ hm=>(nomatch hm)⟩⟩,h2,h3,h4⟩
section
variable {prog:Program} {w:World} {A:Around} {E:Value→Shared→Prop} {s:Shared} {K:Frag}
end
end Att
namespace L2
open PySem PySem.Spec PyProof.Rows
theorem rV:∀{vs:List Value} {ns:List Int},IntsAre vs ns→cB (ns.map V.int) vs
 | _,_,.nil=>.nil
 | _,_,.cons n t h=>.cons ⟨t,rfl⟩ (rV h)
def cG (s:Stmt) (j:Nat):Stmt:=match s with
 | .ClassDef _ _ _ body _ _ _ _ _ _ _=>body.getD j (.Pass ⟨0,0,0,0⟩)
 | _=>.Pass ⟨0,0,0,0⟩
def aQ (s:Stmt):Arguments:=match s with
 | .FunctionDef _ a _ _ _ _ _ _ _ _=>a
 | _=>{ posonlyargs:=[],args:=[],vararg:=none,kwonlyargs:=[],kw_defaults:=[],kwarg:=none,defaults:=[] }
def aO (s:Stmt):List Stmt:=match s with
 | .FunctionDef _ _ b _ _ _ _ _ _ _=>b
 | _=>[]
def aH (s:Stmt):Scope:=match s with
 | .FunctionDef _ _ _ _ _ _ sc _ _ _=>sc
 | _=>{ kind:=.function,names:=[],isGenerator:=false,isCoroutine:=false }
abbrev CX0:CXT:=fun _ _ _ _ _ _=>False
abbrev E0:XK:=fun _ _ _=>False
theorem aY {X:Cx}:gE CX0 X E0:=fun _ _ _ _ _ _ _ h=>h.elim
structure Fun (K:PySem.W.Frag) (x qual:Str) (st:Stmt) (f:Addr) (fd:FuncData):Prop where
 ex:∃(oc:Value) (od:Option Addr) (kV doc pm:Value) (an:Option Addr) (cdv ct:Value) (osl:Array (Option Value)),
  fd=PySem.W.fnOf x qual (aQ st) (aO st) (aH st) .none kV doc pm an cdv ct∧K.lookup f=some ⟨oc,od,.func fd,osl⟩∧PySem.W.codeIn K cdv qual=true
 kp:PySem.W.keepIn K (.ref f)=true
section
variable {P:Program} {w:World} {K:PySem.W.Frag} {mg:Str→Option Value} {base:Heap}
theorem Fun.ok {x qual:Str} {st:Stmt} {f:Addr} {fd:FuncData} {N ps:List Str} {k:Nat} {sp:Sp} (F:Fun K x qual st f fd) (S:aR N ps (aH st)) (len:∀vs H Q E,sp vs H Q E→vs.length=ps.length)
  (hbody:∀(cdv:Value) (A:Around) (outer:List Env) (s:Shared) (H:Hp) (vs:List V) (Q:VK) (E:XK),Room k (A.deeper (envOfC qual (aH st) s.heap.objs.size f cdv))→sp vs H Q E →
   ∃t,PSs (kO CX0 P w K mg base N qual (aH st) f cdv A outer s H E).nox (aO st) t∧t { nx:=fun _ H'=>Q .non H',rt:=Q } (dO N vs) H):aK P w K mg base CX0 (k+1) f fd ps sp:=by
 obtain⟨oc,od,kV,doc,pm,an,cdv,ct,osl,rfl,lk,hcd⟩:=F.ex
 refine fn_of lk hcd S len fun A outer s H vs Q E hr hsp=>?_
 obtain⟨t,h,q⟩:=hbody cdv A outer s H vs Q E hr hsp
 exact⟨t,h.nox,q⟩
theorem Fun.binds {x qual:Str} {st:Stmt} {f:Addr} {fd:FuncData} {ps:List Str} (F:Fun K x qual st f fd)
  (h:∀(kV doc pm:Value) (an:Option Addr) (cdv ct:Value) (us:List Value),us.length=ps.length→bindArgs (PySem.W.fnOf x qual (aQ st) (aO st) (aH st) .none kV doc pm an cdv ct) ⟨us,[]⟩=pure (ps.zip us)):aP K fd ps []:=by
 obtain⟨oc,od,kV,doc,pm,an,cdv,ct,osl,rfl,lk,hcd⟩:=F.ex
 exact .all (h kV doc pm an cdv ct)
theorem bY {x qual:Str} {st:Stmt} {f:Addr} {oc:Value} {od an:Option Addr} {osl:Array (Option Value)} {kV doc pm cdv ct:Value} (l:K.lookup f=some ⟨oc,od,.func (PySem.W.fnOf x qual (aQ st) (aO st) (aH st) .none kV doc pm an cdv ct),osl⟩)
  (c:PySem.W.codeIn K cdv qual=true) (k:PySem.W.keepIn K (.ref f)=true):Fun K x qual st f (PySem.W.fnOf x qual (aQ st) (aO st) (aH st) .none kV doc pm an cdv ct):=⟨⟨oc,od,kV,doc,pm,an,cdv,ct,osl,rfl,l,c⟩,k⟩
end
theorem hu_of {A:Around} {k:Nat} (hr:Room k A):A.units+1<cLine:=Nat.lt_of_le_of_lt (Nat.add_le_add_left (by decide:1≤64) _) hr.units
theorem sF {n:Nat} (h:n≤1000):n<sizeLine:=Nat.lt_of_le_of_lt h (by decide)
section
variable {X:Cx}
theorem pv (i:Nat) {x:Str} {pos:Pos} (hN:X.N[i]?=some x:=by rfl) (hv:Vis X.env.scope x:=by first|exact Or.inl rfl|exact Or.inr (Or.inl rfl)|exact Or.inr (Or.inr rfl)) (hd:(x == ("__debug__":Str))=false:=by decide)
  (hcd:(x == ("__classdict__":Str))=false:=by decide):PE X (.Name x pos) (jR i):=pe_var hN hv hd hcd
end
theorem dS {A B:Prop} (h:B):if false=true then A else B:=by
 rw [if_neg Bool.false_ne_true]
 exact h
theorem eL {A B:Prop} (h:A):if true=true then A else B:=by
 rw [if_pos rfl]
 exact h
theorem dU {c A B:Prop} [Decidable c] (h1:c→A) (h2:¬ c→B):if c then A else B:=by
 by_cases h:c
 ·rw [if_pos h]
  exact h1 h
 ·rw [if_neg h]
  exact h2 h
theorem iteNS {c A B:Prop} [Decidable c] (hc:c) (h:B):if (!decide c)=true then A else B:=by
 rw [decide_eq_true hc]
 exact dS h
def aL (H H':Hp):Prop:=∀b o,H b=some o→H' b=some o
theorem aL.refl (H:Hp):aL H H:=fun _ _ h=>h
theorem aL.trans {H H1 H2:Hp} (a:aL H H1) (b:aL H1 H2):aL H H2:=fun c o h=>b c o (a c o h)
theorem aL.free {H H':Hp} (e:aL H H') {l:Addr} (h:H' l=Option.none):H l=Option.none:=by
 cases q:H l with
 | none=>rfl
 | some o=>
  rw [e l o q] at h
  cases h
theorem aL.seq {K:PySem.W.Frag} {H H':Hp} {a:Addr} {xs:List V} (e:aL H H') (h:SqL K H a xs):SqL K H' a xs:=by
 rcases h with (h|⟨o,h⟩)|h
 ·exact .inl (.inl (e _ _ h))
 ·exact .inl (.inr ⟨o,e _ _ h⟩)
 ·exact .inr h
end L2
set_option maxHeartbeats 4000000
namespace L2
open PySem PySem.Spec PyProof.Rows
theorem cE.is {P:Program} {w:World} {H:Hp} {h:Heap} {a:Addr} {o:HO} (x:cE P w H h a o):∃ob,h.get? a=some ob:=by
 cases o with
 | lst xs=>obtain⟨_,_,_,_,q⟩:=x;exact⟨_,q⟩
 | tup xs=>obtain⟨_,_,_,ob,q,_⟩:=x;exact⟨_,q⟩
 | dK kvs=>obtain⟨_,_,_,_,ob,_,_,q,_⟩:=x;exact⟨_,q⟩
 | dT kvs=>obtain⟨_,_,_,_,ob,_,_,q,_⟩:=x;exact⟨_,q⟩
 | set S n=>obtain⟨ob,_,_,_,q,_⟩:=x;exact⟨_,q⟩
 | ins C dx fs=>obtain⟨_,_,_,q,_⟩:=x;exact⟨_,q⟩
 | own y=>exact x
 | xd fs=>obtain⟨_,⟨_,_,_,q,_⟩,_⟩:=x;exact⟨_,q⟩
 | rng lo hi=>obtain⟨_,_,_,q⟩:=x;exact⟨_,q⟩
 | frz ob u=>obtain⟨q,_⟩:=x;exact⟨_,q⟩
 | tbl ps=>exact⟨_,(show h.get? a=some _ from x)⟩
 | met f y=>exact⟨_,(show h.get? a=some _ from x)⟩
 | ext φ=>obtain⟨_,q,_⟩:=x;exact q
structure Fly (P:Program) (w:World) (outer:List Env) (H:Hp) (h:Heap) (ea:Addr) (cls a0:Value) (H':Hp) (B h':Heap):Prop where
 fly:Heap.FlyingW B outer ea cls a0 h'
 hok:HOk P w H' B
 new:h.get? ea=none
 keepB:∀b o,h.get? b=some o→H b=none→b ∉ frs outer→B.get? b=some o
 slot:∀b o,h.get? b=some o→b ∈ frs outer→∃sl,h'.get? b=some { o with slots:=sl }
 free:∀b o,h.get? b=some o→H b=none→H' b=none
 thereB:∀b o,h.get? b=some o→b ∉ frs outer→∃o',B.get? b=some o'
 tups:∀b xs,H b=some (.tup xs)→H' b=some (.tup xs)
 frzs:∀b o u,H b=some (.frz o u)→H' b=some (.frz o u)
 tbls:∀b ps,H b=some (.tbl ps)→∃more,H' b=some (.tbl (ps++more))
section
variable {P:Program} {w:World} {outer:List Env} {H H':Hp} {h h' h2 B:Heap} {ea:Addr} {cls a0:Value}
theorem Fly.freeE (F:Fly P w outer H h ea cls a0 H' B h'):H' ea=none:=by
 cases q:H' ea with
 | none=>rfl
 | some o=>
  obtain⟨ob,z⟩:=(F.hok ea o q).is
  rw [F.fly.2.1] at z
  cases z
theorem Fly.later (F:Fly P w outer H h ea cls a0 H' B h') (fl:Heap.FlyingW B outer ea cls a0 h2) (up:h'.UpToSlots h2):Fly P w outer H h ea cls a0 H' B h2 where
 fly:=fl
 hok:=F.hok
 new:=F.new
 keepB:=F.keepB
 slot:=fun b o q hb=>by
  obtain⟨sl,z⟩:=F.slot b o q hb
  obtain⟨_,o',z',nf⟩:=F.fly.2.2.1.mem hb
  rw [z] at z'
  cases z'
  obtain⟨sl',z2⟩:=up b _ z nf
  exact⟨sl',z2⟩
 free:=F.free
 thereB:=F.thereB
 tups:=F.tups
 frzs:=F.frzs
 tbls:=F.tbls
theorem Fly.un (F:Fly P w outer H h ea cls a0 H' B h'):Un (frs outer) [] H H' h h' where
 keep:=fun b o q n hb _=>F.fly.1 b o (F.keepB b o q n hb)
 slot:=fun b o q _ hb _=>F.slot b o q hb
 free:=fun b o q n _=>F.free b o q n
 there:=fun b o q _=>by
  by_cases hb:b ∈ frs outer
  ·obtain⟨sl,z⟩:=F.slot b o q hb
   exact⟨_,z⟩
  ·obtain⟨o',z⟩:=F.thereB b o q hb
   exact⟨o',F.fly.1 b o' z⟩
 tups:=F.tups
 frzs:=F.frzs
 tbls:=F.tbls
theorem Fly.hokN (F:Fly P w outer H h ea cls a0 H' B h'):HOk P w H' h':=F.hok.kept F.fly.1
end
def CXE (P:Program) (w:World):CXT:=fun outer H s E e s'=>∃(ea:Addr) (cls a0:Value) (H':Hp) (B:Heap),
 e=Value.ref ea∧s'.os=s.os∧AllBare s'.gens∧Fly P w outer H s.heap ea cls a0 H' B s'.heap∧E cls none H'
def wQ (X:Cx) (C:Addr) (R:Hp→Prop):Prop:=
 ∀(pins:List (Addr × Obj)) (σ:St) (H:Hp) (s:Shared) (h':Heap) (e:Addr) (vs:List Value),Inv X pins σ H s→Heap.MadeExcOf s.heap h' e (.ref C) vs→R H→X.xe (.ref e) { s with heap:=h' }
theorem qZ {env:Env} {outer:List Env} {L:Addr} (hf:env.frame=some L):frs (env::outer)=L::frs outer:=by
 unfold frs
 rw [List.filterMap_cons,hf]
section
variable {P:Program} {w:World} {K:PySem.W.Frag} {mg:Str→Option Value} {base:Heap} {N:List Str} {qual:Str} {scope:Scope} {f:Addr} {cd:Value} {A:Around} {outer:List Env} {s₀:Shared} {H₀:Hp} {E:XK}
theorem gJ {C:Addr}:wQ (kO (CXE P w) P w K mg base N qual scope f cd A outer s₀ H₀ E) C (fun H=>E (.ref C) none H):=by
 intro pins σ H s h' e vs I hx hE
 have stk:s.heap.FunFrames (PySem.W.hideAll s.heap (frs (envOfC qual scope s₀.heap.objs.size f cd::outer))) (envOfC qual scope s₀.heap.objs.size f cd::outer):=
  PySem.W.funFrames_hide I.stack fun env he a ha=>List.mem_filterMap.mpr ⟨env,he,ha⟩
 have nof:∀b,(H b).isSome=true→b ∉ frs (envOfC qual scope s₀.heap.objs.size f cd::outer):=fun b hb z=>by
  rw [I.stkFree b z] at hb
  cases hb
 have low:∀b o,s₀.heap.get? b=some o→b ∉ frs outer→b ∉ frs (envOfC qual scope s₀.heap.objs.size f cd::outer):=fun b o q hb z=>by
  rw [qZ (L:=s₀.heap.objs.size) rfl] at z
  rcases List.mem_cons.mp z with z|z
  ·rw [z] at q
   exact absurd (Heap.lt_size q) (Nat.lt_irrefl _)
  ·exact hb z
 show wpAny _ _ (leaving _ (.ref e)) _ _ _
 refine wpAny_leaves_madeW (base:=PySem.W.hideAll s.heap (frs (envOfC qual scope s₀.heap.objs.size f cd::outer))) (h:=s.heap) (outer:=outer) I.ok.frames rfl (fun b o q=>PySem.W.of_hideAll _ q) stk hx fun h2 t x1 x2 x3 x4=>?_
 refine⟨e,.ref C,.ref t,H,_,rfl,I.os,I.bare,⟨x1,fun a o q=>?_,?_,fun b o q n hb=>?_,fun b o q hb=>?_,fun b o q n=>I.base.free b o q n (by intro z;cases z),fun b o q hb=>?_,I.base.tups,I.base.frzs,I.base.tbls⟩,hE⟩
 ·refine(I.hok a o q).stay (fun b u hb r=>PySem.W.hideAll_get _ r (nof b ?_)) (fun _ z=>z) fun _ _ z=>z
  rcases hb with rfl|hb
  ·rw [q];rfl
  ·rw [hb];rfl
 ·cases q:s₀.heap.get? e with
  | none=>rfl
  | some o=>
   obtain⟨o',z⟩:=I.base.there e o q (by intro z;cases z)
   rw [hx.new] at z
   cases z
 ·exact PySem.W.hideAll_get _ (I.base.keep b o q n hb (by intro z;cases z)) (low b o q hb)
 ·obtain⟨sl,z⟩:=I.base.slot b o q (I.ok.frf b hb) hb (by intro z;cases z)
  obtain⟨_,o',z',nf⟩:=I.funs.mem hb
  rw [z] at z'
  cases z'
  obtain⟨sl',z2⟩:=x4 b _ (hx.keeps b _ z) nf
  exact⟨sl',z2⟩
 ·obtain⟨o',z⟩:=I.base.there b o q (by intro z;cases z)
  exact⟨o',PySem.W.hideAll_get _ z (low b o q hb)⟩
theorem sS {E':XK} (hE:∀cls d H,E' cls d H→E cls d H):gE (CXE P w) (kO (CXE P w) P w K mg base N qual scope f cd A outer s₀ H₀ E) E':=by
 intro pins σ H s e s' I hc
 obtain⟨ea,cls,a0,H',B,rfl,os,bare,F,hE'⟩:=hc
 have low:∀b o,s₀.heap.get? b=some o→b ∉ frs outer→b ∉ frs (envOfC qual scope s₀.heap.objs.size f cd::outer):=fun b o q hb z=>by
  rw [qZ (L:=s₀.heap.objs.size) rfl] at z
  rcases List.mem_cons.mp z with z|z
  ·rw [z] at q
   exact absurd (Heap.lt_size q) (Nat.lt_irrefl _)
  ·exact hb z
 have up:∀b,b ∈ frs outer→b ∈ frs (envOfC qual scope s₀.heap.objs.size f cd::outer):=fun b hb=>by
  rw [qZ (L:=s₀.heap.objs.size) rfl]
  exact List.mem_cons_of_mem _ hb
 show wpAny _ _ (leaving _ (.ref ea)) _ _ _
 refine wpAny_leaves_onW (outer:=outer) I.ok.frames rfl F.fly fun h2 x1 x4=>?_
 refine⟨ea,cls,a0,H',B,rfl,os.trans I.os,bare,⟨x1,F.hok,?_,fun b o q n hb=>?_,fun b o q hb=>?_,fun b o q n=>?_,fun b o q hb=>?_,fun b xs q=>F.tups b xs (I.base.tups b xs q),fun b o u q=>F.frzs b o u (I.base.frzs b o u q),fun b ps q=>?_⟩,hE _ _ _ hE'⟩
 ·cases q:s₀.heap.get? ea with
  | none=>rfl
  | some o=>
   obtain⟨o',z⟩:=I.base.there ea o q (by intro z;cases z)
   rw [F.new] at z
   cases z
 ·exact F.keepB b o (I.base.keep b o q n hb (by intro z;cases z)) (I.base.free b o q n (by intro z;cases z)) (low b o q hb)
 ·obtain⟨sl,z⟩:=I.base.slot b o q (I.ok.frf b hb) hb (by intro z;cases z)
  obtain⟨sl2,z2⟩:=F.slot b _ z (up b hb)
  obtain⟨_,o',z',nf⟩:=F.fly.2.2.1.mem (up b hb)
  rw [z2] at z'
  cases z'
  obtain⟨sl',z3⟩:=x4 b _ z2 nf
  exact⟨sl',z3⟩
 ·obtain⟨o',z⟩:=I.base.there b o q (by intro z;cases z)
  exact F.free b o' z (I.base.free b o q n (by intro z;cases z))
 ·obtain⟨o',z⟩:=I.base.there b o q (by intro z;cases z)
  exact F.thereB b o' z (low b o q hb)
 ·obtain⟨m1,z⟩:=I.base.tbls b ps q
  obtain⟨m2,z2⟩:=F.tbls b _ z
  exact⟨m1++m2,by rw [z2,Array.append_assoc]⟩
end
end L2
namespace L2
open PySem PySem.Spec PyProof.Rows
abbrev AbR:List Value:=[.type "ValueError",.type "Exception",.type "BaseException",.type "object"]
def rK (K:PySem.W.Frag) (C:Addr):Prop:=PySem.W.excIn K C AbR "ValueError.__new__"=true
theorem AbD {K:PySem.W.Frag} {h:Heap} {C:Addr} (X:K.In h) (q:rK K C):
  ∃bm N nm qn bs hdct sn sub ab col dd k0 k1 k2 k3 k5 mN,h.get? C=some (excClassObj nm qn C N bs bm hdct sn sub ab col dd k0 k1 k2 k3 k5 "ValueError.__new__")∧h.Ns N mN∧mN "__init__"=none∧OwnTail h AbR bm:=by
 unfold rK PySem.W.excIn at q
 split at q
 ·next dd cd sl ho=>
  split at q
  ·next C' bm k0 k1 k2 k3 n k5 hm hs=>
   simp only [Bool.and_eq_true,beq_iff_eq,Bool.not_eq_true'] at q
   obtain⟨⟨⟨⟨⟨e1,e2⟩,e3⟩,e4⟩,e5⟩,e6⟩:=q
   subst e1
   subst e2
   obtain⟨nm,bs,mro,ns,qn,hd,sn,sub,ab,col,del⟩:=cd
   dsimp only at hm e3 e5 e6
   subst hm
   subst e3
   have hsl:sl=#[k0,k1,k2,k3,some (.builtin "ValueError.__new__"),k5]:=by
    cases sl with
    | mk l=>
     have hs':l=[k0,k1,k2,k3,some (.builtin "ValueError.__new__"),k5]:=hs
     rw [hs']
   subst hsl
   exact⟨bm,ns,nm,qn,bs,hd,sn,sub,ab,col,dd,k0,k1,k2,k3,k5,_,X _ _ ho,.of_isNs (PySem.W.isNs_of_in X e5),PySem.W.nsMap_none_of_in X e5 e6,PySem.W.tail_of_in X e4⟩
  ·cases q
 ·cases q
section
variable {X:Cx} {x:Str} {C:Addr} {R:Hp→Prop} {e₀:Expr} {ta:TA} {np cpos pos:Pos}
def tRaise (ta:TA) (R:Hp→Prop):TS:=fun _ σ H=>ta σ H fun vs H1=>vs.length≤sizeLine∧R H1
theorem lC (hc:X.calm=true) (EC:rK X.K C) (hg:Gl X x) (hm:X.mg x=some (.ref C)) (hR:wQ X C R) (ha:PA X [e₀] ta)
  (he:starEach [e₀] X.env=[(false,eval e₀ X.env)]:=by rfl) (hd:(x == ("__debug__":Str))=false:=by decide):
  PS X (.Raise (some (.Call (.Name x np) [e₀] [] cpos)) none pos) (tRaise ta R):=by
 intro pins s σ H D I h
 obtain⟨tl,N,nm,q,bs,hdct,sn,sub,ab,col,dd,k0,k1,k2,k3,k5,mN,hC,hN,hni,T⟩:=AbD I.mod.kin EC
 refine wpAny_Raise_call_subT (C:=C) (nm:=nm) (q:=q) (N:=N) (bs:=bs) (bm:=tl) (hdct:=hdct) (sn:=sn) (sub:=sub) (ab:=ab) (col:=col) (dd:=dd) (k0:=k0) (k1:=k1) (k2:=k2) (k3:=k3) (k5:=k5)
  PySem.F.excBase_ValueError (mN:=mN) (T.hasType PySem.F.excBase_ValueError.hasBase) (I.ok.hd hc) (by rw [he];rfl) hni (jO I hg hm ⟨rfl,?_⟩ hd)
 have key:=ha cpos pins s σ H _ I h
 rw [he] at key ⊢
 refine Calls.evalArgs_plain (wpAny_mono key (fun us s2 hq=>?_) fun _ _ z=>z)
 obtain⟨vs,H1,I1,rv,hl,hR1⟩:=hq
 refine⟨rfl,?_,I1.bk _ _ hC,hN.keeps I1.bk,T.keeps I1.bk,fun h' e hx=>hR pins σ H1 s2 h' e _ I1 hx hR1⟩
 show us.length≤sizeLine
 rw [← rv.length]
 exact hl
end
end L2
namespace L2
open PySem PySem.Spec PyProof.Rows PySem.W PySem.Calls Builtin Builtin.ObjectAttr Builtin.Getset_descriptor
structure uX (K:Frag) (C:Addr):Prop where
 exc:rK K C
 cl:(clsIn K C).isSome=true
 ga:findIn K (.ref C) "__getattribute__"=some (some (.builtin "BaseException.__getattribute__"))
 gh:findIn K (.ref C) "__getattr__"=some none
 ca:findIn K (.ref C) "__class__"=some (some (.builtin "object.__class__"))
 cg:specialIn K (.builtin "object.__class__") "__get__"=some (some (.builtin "getset_descriptor.__get__"))
 ct:takesIn K (.builtin "object.__class__")=some true
 mo:mroIn K C (.type "object")=some true
 mb:mroIn K C (.type "BaseException")=some true
def jW (e C:Addr) (h:Heap):Prop:=∃o,h.get? e=some o∧o.cls=.ref C
section
variable {K:Frag} {e C:Addr}
theorem jW.ty {M:Model} {h:Heap} (p:jW e C h):Looks M h (typeOf (.ref e)) (.ref C):=by
 obtain⟨o,h1,h2⟩:=p
 exact h2 ▸ (Looks.ld h1).andThen .now
theorem AbE {M:Model} {h:Heap} (X:K.In h) (T:uX K C):Looks M h (find (.ref e) (.ref C) "__class__") (.bind (.builtin "getset_descriptor.__get__") (.builtin "object.__class__")):=by
 have L1:=looks_findIn (M:=M) X T.ca
 have L2:=looks_specialIn (M:=M) X T.cg
 have L3:=looks_takesIn (M:=M) X T.ct
 refine L1.andThen (L2.andThen ?_)
 exact(show Looks M h (dataDescriptor? (some _) (some _)) (some (_,_)) from L3.andThen .now).andThen (Looks.tag .now)
variable {prog:Program} {w:World} {A:Around} {E:Value→Shared→Prop} {s:Shared} {R:Result→Shared→Prop}
theorem rR {tp:Value} (X:K.In s.heap) (T:uX K C) (p:jW e C s.heap) (h:R (.ok (.ret (.ref C))) s):
  codeAny (model prog w) A (.call (.builtin "getset_descriptor.__get__") ⟨[.builtin "object.__class__",.ref e,tp],[]⟩) R s:=by
 obtain⟨hh,g,dr,t,os⟩:=s
 have La:=p.ty (M:=model prog w)
 have Lb:=looks_mroIn (M:=model prog w) X T.mo
 refine codeAny_call_builtin KF.slot_gs.plain KF.entry_gs (KF.slot_gs.check _ _ _ _ _ _ _ _ KF.type_class (KF.args_gs _ _ _) ?_)
 unfold Builtin.«getset_descriptor.__get__» descrGet
 rw [dga_obj]
 refine wpAny_bind (wpAny_pure ?_)
 unfold descrGetter descrCheckInstance descrNameAndClass isInstance
 simp only [KF.owner_class]
 repeat lk
 refine⟨Code.quiet_builtin _ (by decide +kernel),codeAny_builtin KF.entry_class ?_⟩
 unfold Builtin.«object.__class__» shownTypeOf
 repeat lk
 exact h
end
end L2
namespace L2
open PySem PySem.Spec PyProof.Rows PySem.W PySem.Calls Builtin Builtin.ObjectAttr Builtin.Getset_descriptor
section
variable {K:Frag} {e C:Addr} {prog:Program} {w:World} {A:Around} {E:Value→Shared→Prop} {s:Shared} {R:Result→Shared→Prop}
theorem uP {M:Model} {nameV:Value} {Q:Unit→Shared→Prop} (X:K.In s.heap) (T:uX K C) (p:jW e C s.heap) (hq:Q () s):
  wpAny M A (checkBuiltinCall "BaseException.__getattribute__" ⟨[.ref e,nameV],[]⟩) Q E s:=by
 have hk:builtinKind "BaseException.__getattribute__"=some .slot:=by decide +kernel
 have hsp:splitId "BaseException.__getattribute__"=some ("BaseException","__getattribute__"):=by decide +kernel
 have ha:=F.args_bexc_ga (.ref e) nameV
 have Li:Looks M s.heap (isInstance (.ref e) (.type "BaseException")) true:=p.ty.andThen (looks_mroIn X T.mb)
 obtain⟨hh,g,dr,t,os⟩:=s
 simp only [checkBuiltinCall,hk,hsp]
 refine wpAny_bind (Li.at ?_)
 repeat (first|wp_step)
 exact hq
theorem wI {tk:Tok} {Q:Fin→Shared→Prop} (X:K.In s.heap) (T:uX K C) (p:jW e C s.heap) (hq:Q (.done (.ret (.ref C))) s):
  wpAny (model prog w) A (Builtin.«object.__getattribute__» ⟨[.ref e,.str "__class__" tk],[]⟩) Q E s:=by
 have La:=p.ty (M:=model prog w)
 have Lf:=AbE (M:=model prog w) (e:=e) X T
 obtain⟨hh,g,dr,t,os⟩:=s
 unfold Builtin.«object.__getattribute__»
 repeat (first|with_reducible refine La.at ?_|with_reducible refine Lf.at ?_|wp_step)
 refine rR X T p ?_
 exact wpAny_pure hq
theorem uO {Q:Option Value→Shared→Prop} (X:K.In s.heap) (T:uX K C) (p:jW e C s.heap) (h:Q (some (.ref C)) { s with toks:=s.toks+1 }):
  wpAny (model prog w) A (getAttr? (.ref e) "__class__") Q E s:=by
 have La:=p.ty (M:=model prog w)
 have Lga:=looks_findIn (M:=model prog w) X T.ga
 have Lgh:=looks_findIn (M:=model prog w) X T.gh
 have f3:=F.attr_ValueError.ga.bind (.ref e)
 have hx2:(Value.builtin "BaseException.__getattribute__" == Value.builtin "object.__getattribute__")=false:=by decide +kernel
 obtain⟨hh,g,dr,t,os⟩:=s
 unfold getAttr? getAttrBy? getAttrBy
 refine wpAny_bind (wpAny_mkText (wpAny_bind (wpAny_attempt (wpAny_holding (wpAny_bind (La.at (wpAny_bind (Lga.at ?_))))))))
 dsimp only
 rw [if_neg (by rw [hx2];simp)]
 unfold getAttrByItsOwn hookBefore
 refine wpAny_bind (Lgh.at ?_)
 refine wpAny_bind (wpAny_attempt (wpAny_holding ?_))
 unfold callGetattribute boundAndCalled
 rw [if_neg (by simp)]
 rw [f3]
 refine wpAny_bind (wpAny_pure ?_)
 refine wpAny_call (codeAny_call_builtin F.attr_ValueError.ga.plain F.entry_bexc_ga (uP X T p (wI X T p ?_)))
 refine wpAny_pure (wpAny_pure ?_)
 exact h
theorem AdQ (T:uX K C):KitX K (.ref e) (.ref C) (jW e C) where
 ty:=fun _ _ _ p=>p.ty
 it:=fun _ _ X _=>by
  have z0:=T.cl
  unfold clsIn at z0
  split at z0
  ·next c' d' cd' sl' ho=>
   intro A' Q' E' s' k q
   unfold isType loadHead
   exact wpAny_bind (wpAny_loadPart (k _ _ (X _ _ ho)) (wpAny_pure q))
  ·cases z0
 ne:=fun h tp dd its n sl X htp=>by
  have z0:=T.cl
  refine Bool.eq_false_iff.mpr fun q=>?_
  have eq:C=tp:=Value.ref.inj (beq_iff_eq.mp q)
  subst eq
  unfold clsIn at z0
  split at z0
  ·next c' d' cd' sl' ho=>
   have z:=(X _ _ ho).symm.trans htp
   cases z
  ·cases z0
 ca:=fun X p k=>uO X T p k
end
def jC (e C:Addr):HO:=.ext (jW e C)
theorem excO_ok {P:Program} {w:World} {H:Hp} {h:Heap} {e C:Addr} (p:jW e C h):cE P w H h e (jC e C):=by
 refine⟨p,?_,fun h1 h2 q k=>?_⟩
 ·obtain⟨o,z,_⟩:=p
  exact⟨o,z⟩
 ·obtain⟨o,z,c⟩:=q
  exact⟨o,k o z,c⟩
section
variable {X:Cx}
inductive IsC:V→Value→Prop where
 | ty (n:String):IsC (.ty n) (.type n)
 | ref (a:Addr):IsC (.ref a) (.ref a)
def uH (K:PySem.W.Frag):List V→Hp→VK→Prop:=fun xs H Q=>∃x y c b,xs=[x,y]∧IsC y c∧((∃t,iL K H x t∧PySem.W.kitOne K t c=some b)∨∃e C,x=.ref e∧H e=some (jC e C)∧uX K C∧PySem.W.kitOne K (.ref C) c=some b)∧Q (.bl b) H
theorem cL:gP X (.builtin "isinstance") (uH X.K):=by
 intro pins s σ H xs us Q I r h
 obtain⟨x,y,c,b,rfl,ry,hh,q⟩:=h
 obtain⟨u,v,rfl,rx,rv⟩:=vals2 r
 have ec:v=c:=by
  cases ry with
  | ty n=>exact rv
  | ref a=>exact rv
 subst ec
 rcases hh with ⟨t,ty,e⟩|⟨ea,C,rfl,he,T,e⟩
 ·exact AbA I rx ty e fun tk=>⟨.bl b,H,I.tok tk,rfl,q⟩
 ·cases (show u=Value.ref ea from rx)
  obtain⟨p,_⟩:=(show cE X.prog X.w H s.heap ea (jC ea C) from I.hok ea _ he)
  exact kia_one (AdQ T) I.kIn p e (fun z=>nomatch z) fun tk=>⟨.bl b,H,I.tok tk,rfl,q⟩
end
end L2
namespace L2
open PySem PySem.Spec PyProof.Rows
theorem Inv.re {X Y:Cx} {pins pins':List (Addr × Obj)} {σ:St} {H:Hp} {s:Shared} (I:Inv X pins σ H s) (ok:Y.Ok) (e1:Y.prog=X.prog) (e2:Y.w=X.w) (e3:Y.N=X.N) (e4:Y.s₀=X.s₀) (e5:Y.H₀=X.H₀) (e6:Y.env=X.env) (e7:Y.outer=X.outer) (e8:Y.ex=X.ex)
  (hp:∀p ∈ Y.pn++pins',p ∈ X.pn++pins):Inv Y pins' σ H s:=by
 obtain⟨prog,w,K,mg,base,A,N,s₀,H₀,env,outer,stack,ex,fn,calm,pn,xe⟩:=X
 obtain⟨prog',w',K',mg',base',A',N',s₀',H₀',env',outer',stack',ex',fn',calm',pn',xe'⟩:=Y
 dsimp only at e1 e2 e3 e4 e5 e6 e7 e8
 subst e1 e2 e3 e4 e5 e6 e7 e8
 exact⟨ok,I.os,I.bare,I.base,I.loc,I.cell,I.free,I.freeC,fun p z=>I.pin p (hp p z),I.hok,I.len⟩
abbrev Cx.try_ (X:Cx) (pn:List (Addr × Obj)) (xe:Value→Shared→Prop):Cx:={ X with pn:=pn,xe:=xe }
abbrev Cx.suite (X:Cx) (e:Value):Cx:={ X with A:=X.A.mark (some e),calm:=false,xe:=fun _ _=>False }
theorem Cx.Ok.try_ {X:Cx} (ok:X.Ok) (pn:List (Addr × Obj)) (xe:Value→Shared→Prop):(X.try_ pn xe).Ok:=
 ⟨ok.mod,ok.kind,ok.glob,ok.blt,ok.above,ok.inj,ok.has,ok.cab,ok.hd,ok.frames,ok.stk,ok.exf,ok.bs,ok.bsz,ok.noex,ok.exfs,ok.funs,ok.frf⟩
theorem Cx.Ok.suite {X:Cx} (ok:X.Ok) (e:Value):(X.suite e).Ok:=
 ⟨ok.mod,ok.kind,ok.glob,ok.blt,ok.above,ok.inj,ok.has,ok.cab,fun z=>(nomatch z),ok.frames,ok.stk,ok.exf,ok.bs,ok.bsz,ok.noex,ok.exfs,ok.funs,ok.frf⟩
theorem Fly.laid {P:Program} {w:World} {outer:List Env} {H H':Hp} {h h' B:Heap} {ea C:Addr} {a0:Value} (F:Fly P w outer H h ea (.ref C) a0 H' B h'):
  Un (frs outer) [] H (upd H' ea (jC ea C)) h h'∧HOk P w (upd H' ea (jC ea C)) h':=by
 have nu:=F.un
 have fe:=F.freeE
 refine⟨⟨nu.keep,nu.slot,fun b o q n hx=>?_,nu.there,fun b xs q=>?_,fun b o u q=>?_,fun b ps q=>?_⟩,fun b u q=>?_⟩
 ·rw [aC (fun z=>by rw [z,F.new] at q;cases q)]
  exact nu.free b o q n hx
 ·have z:=nu.tups b xs q
  rw [aC (aG z fe)]
  exact z
 ·have z:=nu.frzs b o u q
  rw [aC (aG z fe)]
  exact z
 ·obtain⟨m,z⟩:=nu.tbls b ps q
  exact⟨m,by rw [aC (aG z fe)];exact z⟩
 ·by_cases hb:b=ea
  ·subst hb
   rw [aB] at q
   cases q
   obtain⟨o,z,c⟩:=F.fly.there
   exact excO_ok ⟨o,z,c⟩
  ·rw [aC hb] at q
   exact(F.hokN b u q).stay (fun _ _ _ z=>z) (fun c z=>by rw [aC (aG z fe)];exact z) fun c xs z=>by rw [aC (aG z fe)];exact z
def tryE (K:PySem.W.Frag) (cv:Value) (i n:Nat) (ts:TS) (D:jT):XK:=fun cls _ H=>∃C,cls=.ref C∧PySem.W.exmOne K cls cv=some true ∧
 ∀ea,H ea=none→ts { nx:=fun σ H'=>D.nx (σ.set i none) H',rt:=D.rt,bk:=fun σ H'=>D.bk (σ.set i none) H',ct:=fun σ H'=>D.ct (σ.set i none) H' } ((List.replicate n none).set i (some (.ref ea))) (upd H ea (jC ea C))
def tTry (tb:XK→TS) (K:PySem.W.Frag) (cv:Value) (i n:Nat) (ts:TS):TS:=fun D σ H=>tb (tryE K cv i n ts D) D σ H
section
variable {X:Cx}
theorem jN {A:Around} {E:Value→Shared→Prop} {pins:List (Addr × Obj)} {σ:St} {H:Hp} {s:Shared} {i:Nat} {x:Str} {pos:Pos} {Q:Unit→Shared→Prop} (I:Inv X pins σ H s) (hN:X.N.Nodup) (hi:X.N[i]?=some x) (hx:X.env.scope.names.lookup x=some .local)
  (h:∀s',Inv X pins (σ.set i none) H s'→Q () s'):wpAny (model X.prog X.w) A (do bindName X.env x .none;unbindBehindTheSuite X.env x pos) Q E s:=by
 obtain⟨m,hn,hl⟩:=id I.loc
 have hcls:(X.env.scope.kind == .class || (X.env.scope.kind == .module && X.env.locals != X.env.globals))=false:=by rw [I.ok.kind];rfl
 refine wpAny_nameGoes_keeps hx hn hcls fun h' v hn' hs=>?_
 obtain⟨oL,_,_,hoL,_⟩:=id hn
 have neL:∀b o,X.s₀.heap.get? b=some o→b≠X.env.locals:=fun b o q=>Nat.ne_of_lt (Nat.lt_of_lt_of_le (Heap.lt_size q) I.ok.above)
 refine h _ ⟨I.ok,I.os,I.bare,⟨fun b o q n hb he=>(hs.2 b (neL b o q)).trans (I.base.keep b o q n hb he),fun b o q n hb he=>?_,I.base.free,fun b o q he=>?_,I.base.tups,I.base.frzs,I.base.tbls⟩,
  ⟨_,hn',fun j y v' e1 e2 e3=>?_⟩,fun y c q=>?_,I.free,I.freeC,fun p hp=>?_,fun b ob q=>?_,by simpa using I.len⟩
 ·obtain⟨sl,z⟩:=I.base.slot b o q n hb he
  exact⟨sl,(hs.2 b (neL b o q)).trans z⟩
 ·obtain⟨o',z⟩:=I.base.there b o q he
  exact⟨o',(hs.2 b (neL b o q)).trans z⟩
 ·by_cases hj:j=i
  ·subst hj
   have hiσ:j<σ.length:=by rw [I.len];exact(List.getElem?_eq_some_iff.mp hi).1
   rw [List.getElem?_set_self hiσ] at e2
   cases e2
  ·rw [List.getElem?_set_ne (Ne.symm hj)] at e2
   obtain⟨u',r',z⟩:=hl j y v' e1 e2 e3
   refine⟨u',r',?_⟩
   rcases z with ⟨k,z⟩|⟨k,c,z,z2⟩
   ·refine .inl ⟨k,?_⟩
    have ny:y≠x:=fun w=>hj (qN hN e1 (w ▸ hi))
    show (if y=x then v else m y)=some u'
    rw [if_neg ny]
    exact z
   ·exact .inr ⟨k,c,z,z2.sameBut hs (I.cne y c z)⟩
 ·obtain⟨w',z⟩:=I.cell y c q
  exact⟨w',z.sameBut hs (I.cne y c q)⟩
 ·obtain⟨e,n,ne,nf,d⟩:=I.pin p hp
  exact⟨(hs.2 p.1 ne).trans e,n,ne,nf,d⟩
 ·refine(I.hok b ob q).stay (fun c w' hc r=>(hs.2 c ?_).trans r) (fun _ r=>r) fun _ _ r=>r
  rintro rfl
  rcases hc with rfl|hc
  ·rw [I.free] at q;cases q
  ·rw [I.free] at hc;cases hc
theorem AcO {body:List Stmt} {b₀:Stmt} {suite:List Stmt} {x n:Str} {np hpos pos:Pos} {i:Nat} {tb:XK→TS} {ts:TS} {cv:Value} (hnx:X.xe=fun _ _=>False) (hN:X.N.Nodup) (hi:X.N[i]?=some n) (hx:X.env.scope.names.lookup n=some .local)
  (hst:X.stack=X.env::X.outer∧X.env.frame=some X.env.locals) (hg:Gl X x) (hm:X.mg x=some cv)
  (hb:∀(pn:List (Addr × Obj)) (xe:Value→Shared→Prop) (E:XK),gE (CXE X.prog X.w) (X.try_ pn xe) E→PSs (X.try_ pn xe) body (tb E))
  (hs:∀e,PSs (X.suite e) (b₀::suite) ts) (hd:(x == ("__debug__":Str))=false:=by decide):
  PS X (.Try body [.ExceptHandler (some (.Name x np)) (some n) (b₀::suite) hpos] [] [] pos) (tTry tb X.K cv i X.N.length ts):=by
 intro pins s σ H D I h
 rw [hnx]
 refine wpAny_Try_except ?_
 refine wpAny_mono (hb (X.pn++pins) (fun e s'=>∃pins' σ' H0 s0,Inv (X.try_ (X.pn++pins) fun _ _=>False) pins' σ' H0 s0∧CXE X.prog X.w X.stack H0 s0 (tryE X.K cv i X.N.length ts D) e s') _
  (fun pins' σ' H0 s0 e s' J hc=>⟨pins',σ',H0,s0,J.re (J.ok.try_ _ _) rfl rfl rfl rfl rfl rfl rfl rfl fun p z=>z,hc⟩) [] s σ H D
  (I.re (I.ok.try_ _ _) rfl rfl rfl rfl rfl rfl rfl rfl fun p z=>by simpa using z) h) (fun f s1 q=>?_) fun e s1 q=>?_
 ·have back:SP X pins D f s1:=by
   cases f with
   | next=>obtain⟨σ',H',J,q⟩:=q;exact⟨σ',H',J.re I.ok rfl rfl rfl rfl rfl rfl rfl rfl fun p z=>by simpa using z,q⟩
   | brk=>obtain⟨σ',H',J,q⟩:=q;exact⟨σ',H',J.re I.ok rfl rfl rfl rfl rfl rfl rfl rfl fun p z=>by simpa using z,q⟩
   | cont=>obtain⟨σ',H',J,q⟩:=q;exact⟨σ',H',J.re I.ok rfl rfl rfl rfl rfl rfl rfl rfl fun p z=>by simpa using z,q⟩
   | ret u=>obtain⟨v,σ',H',J,r,q⟩:=q;exact⟨v,σ',H',J.re I.ok rfl rfl rfl rfl rfl rfl rfl rfl fun p z=>by simpa using z,r,q⟩
  cases f with
  | next=>exact wpAny_execs_nil back
  | brk=>exact back
  | cont=>exact back
  | ret u=>exact back
 ·obtain⟨pins',σ',H0,s0,J,ea,cls,a0,H',B,rfl,os,bare,F,C,rfl,hex,hsu⟩:=q
  have fr:X.A.frames=some (X.env::X.outer):=by rw [← hst.1];exact I.ok.frames
  have F':=F
  rw [hst.1] at F'
  refine wpAny_looks_onW fr hst.2 F'.fly fun h4 held up4=>?_
  refine wpAny_landsW held fun h5 fl5 up5=>?_
  have F5:=F'.later fl5 (up4.trans up5)
  have mkI:∀(hh:Heap),Fly X.prog X.w (X.env::X.outer) H0 s0.heap ea (.ref C) a0 H' B hh→Inv (X.suite (.ref ea)) (X.pn++pins) (List.replicate X.N.length none) (upd H' ea (jC ea C)) { s1 with heap:=hh }:=fun hh FF=>by
   obtain⟨un,hok⟩:=FF.laid
   rw [← hst.1] at un
   have J1:Inv (X.try_ (X.pn++pins) fun _ _=>False) pins' σ' (upd H' ea (jC ea C)) { s1 with heap:=hh }:=
    J.call' (s':={ s1 with heap:=hh }) os un hok bare (fun b z=>absurd z (by simp))
   have J2:Inv (X.suite (.ref ea)) (X.pn++pins) σ' (upd H' ea (jC ea C)) { s1 with heap:=hh }:=J1.re (I.ok.suite _) rfl rfl rfl rfl rfl rfl rfl rfl fun p z=>by
    rcases List.mem_append.mp z with z|z
    ·exact List.mem_append_left _ (List.mem_append_left _ z)
    ·exact List.mem_append_left _ z
   refine J2.weak (by rw [List.length_replicate,J2.len]) fun k v z=>?_
   rw [List.getElem?_replicate] at z
   split at z <;> cases z
  have I5:=mkI h5 F5
  have up5':=up4.trans up5
  refine wpAny_handleBy_cons (codeAny_handlers_test (env:=X.env) (jO (X:=X.suite (.ref ea)) I5 hg hm ?_ hd)) (by intro z;cases z)
  have Lm:PySem.W.Looks (model X.prog X.w) h5 (excMatches (.ref ea) cv) true:=by
   refine PySem.W.exm_one I5.kIn ?_ hex
   obtain⟨o,z,c⟩:=fl5.there
   exact jW.ty ⟨o,z,c⟩
  refine Lm.at ?_
  refine codeAny_handlers_suite_as ?_
  refine lands_againW fl5 fun h6 fl6 up6=>?_
  have I6:=mkI h6 (F5.later fl6 up6)
  refine kU (X:=X.suite (.ref ea)) I6 hN hi (Or.inl hx) (v:=.ref ea) rfl (fun s7 I7=>?_) (.inr hx)
  refine wpAny_mono (hs (.ref ea) (X.pn++pins) s7 _ _ { nx:=fun σ H'=>D.nx (σ.set i none) H',rt:=D.rt,bk:=fun σ H'=>D.bk (σ.set i none) H',ct:=fun σ H'=>D.ct (σ.set i none) H' } I7 (hsu ea F.freeE)) (fun f s8 q=>?_) fun _ _ z=>z.elim
  have bk:∀{σ8:St} {H8:Hp} {s9:Shared},Inv (X.suite (.ref ea)) (X.pn++pins) σ8 H8 s9→Inv X pins σ8 H8 s9:=fun J=>J.re I.ok rfl rfl rfl rfl rfl rfl rfl rfl fun p z=>by
   rcases List.mem_append.mp z with z|z
   ·exact List.mem_append_left _ z
   ·exact List.mem_append_right _ (List.mem_append_right _ z)
  cases f with
  | next=>obtain⟨σ8,H8,I8,q⟩:=q;exact jN (bk I8) hN hi hx fun s9 I9=>⟨_,H8,I9,q⟩
  | brk=>obtain⟨σ8,H8,I8,q⟩:=q;exact jN (bk I8) hN hi hx fun s9 I9=>⟨_,H8,I9,q⟩
  | cont=>obtain⟨σ8,H8,I8,q⟩:=q;exact jN (bk I8) hN hi hx fun s9 I9=>⟨_,H8,I9,q⟩
  | ret u=>obtain⟨v,σ8,H8,I8,r,q⟩:=q;exact jN (bk I8) hN hi hx fun s9 I9=>⟨v,_,H8,I9,r,q⟩
end
end L2
namespace L2
open PySem PySem.Spec PyProof.Rows
abbrev Cx.blk (X:Cx) (NB:List Str) (scope:Scope) (C:Addr) (s:Shared) (H:Hp) (fp:List Addr) (pn:List (Addr × Obj)):Cx:=
 { X with N:=NB,s₀:=s,H₀:=H,env:=compEnv scope C X.env,outer:=X.stack,ex:=fp,fn:=fun _=>false,pn:=pn,xe:=fun _ _=>False }
def PTs (Y:Cx) (ifs:List Expr) (t:TT):Prop:=
 ∀(pins:List (Addr × Obj)) (s:Shared) (σ:St) (H:Hp) (Q:Bool→Hp→Prop),Inv Y pins σ H s→t σ H Q →
  wpAny (model Y.prog Y.w) Y.A (forIn ifs true fun c r=>if r=true then do let ok ← isTrue c Y.env (eval c Y.env);pure (ForInStep.yield ok) else pure (ForInStep.yield r)) (TP Y pins σ Q) Y.xe s
def tYes:TT:=fun _ H Q=>Q true H
theorem eE {Y:Cx}:PTs Y [] tYes:=fun _ _ _ H _ I h=>wpAny_tests_nil ⟨H,I,h⟩
theorem pts_one {Y:Cx} {c:Expr} {t:TT} (h:PT Y c t):PTs Y [c] t:=fun pins s σ H Q I hq=>wpAny_tests_one (h pins s σ H Q I hq)
def tComp (nB:Nat) (wi:TI) (g:TG) (tc:TT) (te:TE):TE:=fun σ H Q=>wi σ H fun J H1=>∀acc,H1 acc=none →
 ∃W:Nat→Nat→List V→Hp→Prop,(∃m,W 0 m [] (upd H1 acc (.lst [])))∧∀i m ys H,W i m ys H→H acc=some (.lst ys) ∧
  ((J.stop i H∧Q (.ref acc) H)∨(J.go i H∧∀x H',J.yld i H x H'→g x (List.replicate nB none) H' fun σ2 H2=>tc σ2 H2 fun b H3=>
   if b=true then te σ2 H3 fun y H4=>H4 acc=some (.lst ys)∧ys.length<sizeLine∧∃m',m'<m∧W (i+1) m' (ys++[y]) (upd H4 acc (.lst (ys++[y])))
   else ∃m',m'<m∧W (i+1) m' ys H3))
section
variable {X:Cx} {NB:List Str} {scope:Scope}
theorem blk_inv {pins:List (Addr × Obj)} {σ:St} {H:Hp} {s:Shared} {h4:Heap} {tk:Nat} {fp:List Addr} (I:Inv X pins σ H s) (hk:scope.kind=.function) (hfree:∀x ∈ scope.names,x.2≠.free) (hcell:∀x ∈ scope.names,x.2≠.cell)
  (hf:∀b ∈ fp,iN X pins H b) (ho:∀b ∈ fp,b<s.heap.objs.size) {m:Str→Option Value} (hn:h4.Ns s.heap.objs.size m) (keep:∀b o,s.heap.get? b=some o→h4.get? b=some o):
  Inv (X.blk NB scope s.heap.objs.size s H fp (X.pn++pins)) [] (List.replicate NB.length none) H { s with heap:=h4,toks:=tk }:=by
 have stk:∀b,b≠X.env.locals→b ∉ X.fs→b ∉ frs X.stack:=fun b h1 h2 z=>(List.mem_cons.mp (I.stkSub b z)).elim h1 h2
 have nok:∀x k,scope.names.lookup x=some k→k≠.cell∧k≠.free:=fun x k q=>⟨hcell (x,k) (PySem.mem_of_lookup q),hfree (x,k) (PySem.mem_of_lookup q)⟩
 refine⟨⟨I.ok.mod,hk,I.ok.glob,I.ok.blt,Nat.le_refl _,fun x y c q=>(nomatch q),fun x q=>?_,fun x c q=>(nomatch q),I.ok.hd,I.ok.frames,.inl rfl,fun b hb=>⟨Nat.ne_of_lt (ho b hb),fun x c q=>(nomatch q)⟩,I.bs,Nat.le_trans I.ok.bsz I.sz,
  fun b o q hb=>?_,fun b hb=>stk b (hf b hb).2.1 (hf b hb).2.2.1,I.stack,I.stkFree⟩,rfl,I.bare,Un.kept keep,⟨m,hn,fun i x v q1 q2=>?_⟩,fun x c q=>(nomatch q),I.hok.fresh (Nat.le_refl _),fun x c q=>(nomatch q),fun p hp=>?_,I.hok.kept keep,?_⟩
 ·rcases q with q|q
  ·exact absurd rfl (nok x _ q).1
  ·exact absurd rfl (nok x _ q).2
 ·rcases (hf b hb).2.2.2.1 with z|z
  ·exact I.ok.noex b o q z
  ·exact absurd (Nat.lt_of_lt_of_le (Heap.lt_size q) (Nat.le_trans I.ok.bsz z)) (Nat.lt_irrefl _)
 ·rw [List.getElem?_replicate] at q2
  split at q2 <;> cases q2
 ·have hp':p ∈ X.pn++pins:=by simpa using hp
  obtain⟨q,n,ne,nf,d⟩:=I.pin p hp'
  exact⟨keep _ _ q,n,Nat.ne_of_lt (Heap.lt_size q),stk _ ne nf,d⟩
 ·rw [List.length_replicate]
theorem AeQ {pins:List (Addr × Obj)} {σ σ':St} {H H':Hp} {s s':Shared} {h2:Heap} {fp:List Addr} {pl:List (Addr × Obj)} (I:Inv X pins σ H s) (hf:∀b ∈ fp,iN X pins H b) (ho:∀b ∈ fp,b<s.heap.objs.size)
  (J:Inv (X.blk NB scope s.heap.objs.size s H fp (X.pn++pins)) pl σ' H' s') (hs:Heap.SameBut s.heap.objs.size s'.heap h2):Inv X pins σ H' { s' with heap:=h2 }:=by
 have u:=J.base
 have low:∀b o,s.heap.get? b=some o→b≠s.heap.objs.size:=fun b o q=>Nat.ne_of_lt (Heap.lt_size q)
 refine I.call' (s':={ s' with heap:=h2 }) (ch:=fp) J.os ⟨fun b o q n hb he=>(hs.2 b (low b o q)).trans (u.keep b o q n hb he),fun b o q n hb he=>?_,u.free,fun b o q he=>?_,u.tups,u.frzs,u.tbls⟩ (fun b o q=>?_) J.bare fun b hb=>?_
 ·obtain⟨sl,z⟩:=u.slot b o q n hb he
  exact⟨sl,(hs.2 b (low b o q)).trans z⟩
 ·obtain⟨o',z⟩:=u.there b o q he
  exact⟨o',(hs.2 b (low b o q)).trans z⟩
 ·refine(J.hok b o q).stay (fun c w' hc r=>(hs.2 c ?_).trans r) (fun _ r=>r) fun _ _ r=>r
  have fr:H' s.heap.objs.size=none:=J.free
  rintro rfl
  rcases hc with rfl|hc
  ·rw [fr] at q;cases q
  ·rw [fr] at hc;cases hc
 ·obtain⟨f0,f1,f2,f3,f4,f5⟩:=hf b hb
  exact⟨f3,f1,f4,f5⟩
theorem gL {elt tg iter:Expr} {ifs:List Expr} {pos:Pos} {wi:TI} {g:TG} {tc:TT} {te:TE} (hk:scope.kind=.function) (hfree:∀x ∈ scope.names,x.2≠.free) (hcell:∀x ∈ scope.names,x.2≠.cell)
  (hnames:∀x ∈ scope.names,x.2=.local→scope.names.lookup x.1=some .local) (hc:X.calm=true) (hi:PI X tg iter wi)
  (hg:∀C s H fp pn,PG (X.blk NB scope C s H fp pn) tg g) (ht:∀C s H fp pn,PTs (X.blk NB scope C s H fp pn) ifs tc) (he:∀C s H fp pn,PE (X.blk NB scope C s H fp pn) elt te)
  (hs:∀x,foldedSetIterable iter X.env x=pure x:=by intro _;rfl):PE X (.ListComp elt [⟨tg,iter,ifs,0⟩] scope pos) (tComp NB.length wi g tc te):=by
 intro pins s σ H Q I h
 refine wpAny_ListComp hfree hk hnames (thn (hi pins s σ H _ I h) fun v s1 h1=>thn h1 fun itv s2 h2=>?_) hs
 obtain⟨it,fp,tn,J,H2,rfl,I2,T,st2,f2,h2⟩:=h2
 have lt2:∀b ∈ fp,b<s2.heap.objs.size:=fun b hb=>by
  obtain⟨o,q,_⟩:=T.obj 0 _ st2 b hb
  exact Heap.lt_size q
 refine wpAny_newObj_type ?_
 have hz:H2 s2.heap.objs.size=none:=I2.hok.fresh (Nat.le_refl _)
 obtain⟨W,⟨m0,w0⟩,turn⟩:=h2 s2.heap.objs.size hz
 have I3:Inv X pins σ (upd H2 s2.heap.objs.size (.lst [])) { s2 with heap:=s2.heap.push { cls:=.type "list",dict:=none,data:=.seq ([]:List Value).toArray } }:=
  I2.laid (t':=s2.toks) (fun b o q=>Heap.get?_push_of_some _ q) (Nat.le_refl _) ⟨Nat.zero_le _,[],0,.nil,Heap.get?_push_size _ rfl⟩
 generalize hs3:({ s2 with heap:=s2.heap.push { cls:=.type "list",dict:=none,data:=.seq ([]:List Value).toArray } }:Shared)=s3 at I3 ⊢
 have ups3:∀b o,s2.heap.get? b=some o→s3.heap.get? b=some o:=fun b o q=>by rw [← hs3];exact Heap.get?_push_of_some _ q
 have f3:∀b ∈ fp,iN X pins (upd H2 s2.heap.objs.size (.lst [])) b:=fun b hb=>⟨by rw [aC (Nat.ne_of_lt (lt2 b hb))];exact(f2 b hb).1,(f2 b hb).2⟩
 have lt3:∀b ∈ fp,b<s3.heap.objs.size:=fun b hb=>by
  obtain⟨o,q,_⟩:=T.obj 0 _ st2 b hb
  exact Heap.lt_size (ups3 b o q)
 refine wpAny_newFunctionEnv hcell (by intro y hy;simp at hy) (fun h4 hn4 hs4=>?_) hk
 have keep4:∀b o,s3.heap.get? b=some o→h4.get? b=some o:=fun b o q=>(hs4.2 b (Nat.ne_of_lt (Heap.lt_size q))).trans (Heap.get?_push_of_some _ q)
 have I4:=blk_inv (NB:=NB) (tk:=s3.toks+([]:List (Str × Value)).length) I3 hk hfree hcell f3 lt3 hn4 keep4
 have st4:tn 0 h4:=T.keep _ _ _ st2 fun b hb o q=>keep4 b o (ups3 b o q)
 have fpY:∀{H':Hp},(∀b ∈ fp,H' b=none)→∀b ∈ fp,iN (X.blk NB scope s3.heap.objs.size s3 (upd H2 s2.heap.objs.size (.lst [])) fp (X.pn++pins)) [] H' b:=fun hn b hb=>by
  obtain⟨g0,g1,g2,g3,g4,g5⟩:=f3 b hb
  exact⟨hn b hb,Nat.ne_of_lt (lt3 b hb),fun z=>(List.mem_cons.mp (I3.stkSub b z)).elim g1 g2,.inl hb,fun x c q=>(nomatch q),fun p hp=>g5 p (by simpa using hp)⟩
 have loop:∀s5:Shared,s5={ s3 with heap:=h4,toks:=s3.toks+([]:List (Str × Value)).length }→codeAny (model X.prog X.w) X.A (.compLoop (.ListComp elt [⟨tg,iter,ifs,0⟩] scope pos) 0 (.ref it) (.ref s2.heap.objs.size) (compEnv scope s3.heap.objs.size X.env))
   (fun r s'=>∃m,s'.heap.Ns s3.heap.objs.size m∧∀h',Heap.SameBut s3.heap.objs.size s'.heap h'→match r with
    | .ok _=>EP X pins σ Q (.ref s2.heap.objs.size) { s' with heap:=h' }
    | .error x=>wpAny (model X.prog X.w) X.A (passOn "comprehension.variables-let-go" x (compEnv scope s3.heap.objs.size X.env)) (EP X pins σ Q) X.xe { s' with heap:=h' }) s5:=by
  rintro s5 rfl
  refine codeAny_loop rfl (fun n s'=>∃i ys H',Inv (X.blk NB scope s3.heap.objs.size s3 (upd H2 s2.heap.objs.size (.lst [])) fp (X.pn++pins)) [] (List.replicate NB.length none) H' s'∧tn i s'.heap∧(∀b ∈ fp,H' b=none)∧W i n ys H')
   (fun n s6 hI=>?_) m0 ⟨0,[],_,I4,st4,fun b hb=>(f3 b hb).1,w0⟩
  obtain⟨i,ys,H6,I6,st6,fr6,w6⟩:=hI
  show wpAny _ _ ((compTurn (.ListComp elt [⟨tg,iter,ifs,0⟩] scope pos) 0 (.ref it) (.ref s2.heap.objs.size) (compEnv scope s3.heap.objs.size X.env)).onRaise (fun x=>do noteFrame x (compEnv scope s3.heap.objs.size X.env);theTreesLotGoes x)) _ _ s6
  refine wpAny_noted ?_
  rw [compTurn_list]
  refine wpAny_bind (wpAny_standAt (wpAny_bind ?_))
  obtain⟨hacc,alt⟩:=turn i n ys H6 w6
  rcases alt with ⟨stop,q⟩|⟨go,step⟩
  ·refine thn (T.done (X.blk NB scope s3.heap.objs.size s3 (upd H2 s2.heap.objs.size (.lst [])) fp (X.pn++pins)) rfl rfl rfl hc i [] s6 _ H6 _ I6 (fpY fr6) st6 stop) fun r s7 ⟨hr,I7⟩=>?_
   subst hr
   obtain⟨m,hm,_⟩:=I7.loc
   exact wpAny_pure ⟨m,hm,fun h' hsb=>⟨.ref s2.heap.objs.size,H6,AeQ I3 f3 lt3 I7 hsb,rfl,q⟩⟩
  ·refine thn (T.item (X.blk NB scope s3.heap.objs.size s3 (upd H2 s2.heap.objs.size (.lst [])) fp (X.pn++pins)) rfl rfl rfl hc i [] s6 _ H6 _ I6 (fpY fr6) st6 go) fun r s7 ⟨u,hr,h7⟩=>?_
   subst hr
   refine wpAny_bind (thn h7 fun _ s8 ⟨x,H8,I8,r8,y8,st8,fr8⟩=>?_)
   have I8':=I8.pinned (fpY fr8) (T.obj _ _ st8)
   have gp:∀{σ9:St} {H9:Hp} {s9:Shared},Inv (X.blk NB scope s3.heap.objs.size s3 (upd H2 s2.heap.objs.size (.lst [])) fp (X.pn++pins)) ([]++eQ fp s8.heap) σ9 H9 s9→tn (i+1) s9.heap∧∀b ∈ fp,H9 b=none:=fun I9=>
    ⟨T.keep _ _ _ st8 fun b hb o e=>(I9.pin (b,o) (List.mem_append_right _ (List.mem_append_right _ (dZ hb e)))).1,fun b hb=>by
     obtain⟨o,e,d⟩:=T.obj _ _ st8 b hb
     exact(I9.pin (b,o) (List.mem_append_right _ (List.mem_append_right _ (dZ hb e)))).2.1⟩
   have wk:∀{σ9:St} {H9:Hp} {s9:Shared},Inv (X.blk NB scope s3.heap.objs.size s3 (upd H2 s2.heap.objs.size (.lst [])) fp (X.pn++pins)) ([]++eQ fp s8.heap) σ9 H9 s9→Inv (X.blk NB scope s3.heap.objs.size s3 (upd H2 s2.heap.objs.size (.lst [])) fp (X.pn++pins)) [] (List.replicate NB.length none) H9 s9:=fun I9=>
    I9.unpinned.weak (by rw [List.length_replicate,I9.len]) fun k v z=>by
     rw [List.getElem?_replicate] at z
     split at z <;> cases z
   refine wpAny_bind (wpAny_mono (hg _ _ _ _ _ _ s8 _ H8 x u _ I8' r8 (step x H8 y8)) (fun _ s9 hq=>?_) fun _ _ z=>z.elim)
   obtain⟨σ9,H9,I9,q9⟩:=hq
   refine wpAny_bind (wpAny_mono (ht _ _ _ _ _ _ s9 σ9 H9 _ I9 q9) (fun ok s10 hq=>?_) fun _ _ z=>z.elim)
   obtain⟨H10,I10,q10⟩:=hq
   cases ok with
   | false=>
    rw [if_neg (by simp)] at q10
    obtain⟨m',hm',w10⟩:=q10
    exact wpAny_pure ⟨rfl,m',hm',i+1,ys,H10,wk I10,(gp I10).1,(gp I10).2,w10⟩
   | true=>
    rw [if_pos rfl] at q10
    refine wpAny_bind (wpAny_bind (wpAny_mono (he _ _ _ _ _ _ s10 σ9 H10 _ I10 q10) (fun y s11 hq=>?_) fun _ _ z=>z.elim))
    obtain⟨yv,H11,I11,ry,ha11,hl11,m',hm',w11⟩:=hq
    have mt:=dN (X:=X.blk NB scope s3.heap.objs.size s3 (upd H2 s2.heap.objs.size (.lst [])) fp (X.pn++pins)) ([]++eQ fp s8.heap) s11 σ9 H11 (.ref s2.heap.objs.size) [yv] (.ref s2.heap.objs.size) [y] (fun _ H'=>W (i+1) m' (ys++[yv]) H') I11 rfl (.cons ry .nil) ⟨_,ys,yv,rfl,rfl,ha11,hl11,w11⟩
    refine wpAny_bind (wpAny_mono mt (fun _ s12 hq=>?_) fun _ _ z=>z.elim)
    obtain⟨v12,H12,I12,_,w12⟩:=hq
    exact wpAny_pure (wpAny_pure ⟨rfl,m',hm',i+1,_,H12,wk I12,(gp I12).1,(gp I12).2,w12⟩)
 exact codeAny_compStart_list (loop _ rfl) (T.self _ 0 _ _ _ st4 (loop _ rfl))
end
end L2
namespace L2
open PySem PySem.Spec PyProof.Rows
mutual
inductive RdV (K:PySem.W.Frag) (H:Hp):V→PyData→Prop where
 | non:RdV K H .non .none
 | bl (b:Bool):RdV K H (.bl b) (.bool b)
 | int (i:Int):RdV K H (.int i) (.int i)
 | str (x:Str):RdV K H (.str x) (.str x)
 | lst {a:Addr} {xs:List V} {ds:List PyData}:SqL K H a xs→oR K H xs ds→RdV K H (.ref a) (.list ds)
 | tup {a:Addr} {xs:List V} {ds:List PyData}:SqT K H a xs→oR K H xs ds→RdV K H (.ref a) (.tuple ds)
inductive oR (K:PySem.W.Frag) (H:Hp):List V→List PyData→Prop where
 | nil:oR K H [] []
 | cons {x:V} {d:PyData} {xs:List V} {ds:List PyData}:RdV K H x d→oR K H xs ds→oR K H (x::xs) (d::ds)
end
section
variable {X:Cx} {pins:List (Addr × Obj)} {σ:St} {H:Hp} {s:Shared}
mutual
theorem RdV.reads (I:Inv X pins σ H s):∀{x:V} {d:PyData} {u:Value},RdV X.K H x d→cH x u→∃as,Reads s.heap u d as
 | _,_,_,.non,r=>by cases (show _=Value.none from r);exact⟨_,.none⟩
 | _,_,_,.bl b,r=>by cases (show _=Value.bool b from r);exact⟨_,.bool b⟩
 | _,_,_,.int i,r=>by obtain⟨t,q⟩:=(show ∃t,_=Value.int i t from r);cases q;exact⟨_,.int i t⟩
 | _,_,_,.str x,r=>by obtain⟨t,q⟩:=(show ∃t,_=Value.str x t from r);cases q;exact⟨_,.str x t⟩
 | _,_,_,@RdV.lst _ _ a xs ds hq hs,r=>by
  cases (show _=Value.ref a from r)
  obtain⟨its,rv,p,_⟩:=I.list hq
  obtain⟨as,ra⟩:=oR.reads I hs rv
  obtain⟨o,ho,hc,n,hd⟩:=p.isList
  exact⟨_,.list ho hc hd (by simpa using ra)⟩
 | _,_,_,@RdV.tup _ _ a xs ds hq hs,r=>by
  cases (show _=Value.ref a from r)
  obtain⟨its,rv,p,_⟩:=I.tuple hq
  obtain⟨as,ra⟩:=oR.reads I hs rv
  obtain⟨o,ho,hc,n,hd⟩:=(show s.heap.IsTuple a its.toArray from p)
  exact⟨_,.tuple ho hc hd (by simpa using ra)⟩
theorem oR.reads (I:Inv X pins σ H s):∀{xs:List V} {ds:List PyData} {us:List Value},oR X.K H xs ds→cB xs us→∃as,ReadsAll s.heap us ds as
 | _,_,_,.nil,.nil=>⟨_,.nil⟩
 | _,_,_,.cons h hs,.cons r rs=>by
  obtain⟨as,ra⟩:=RdV.reads I h r
  obtain⟨bs,rb⟩:=oR.reads I hs rs
  exact⟨_,.cons ra rb⟩
end
end
section
variable {X:Cx}
def rEqD (K:PySem.W.Frag):R2:=fun x y H Q=>∃dx dy,RdV K H x dx∧RdV K H y dy∧SeqAt.shaped dx=true∧SeqAt.shaped dy=true∧Q (.bl (PyData.eqv dx dy)) H
def rNeD (K:PySem.W.Frag):R2:=fun x y H Q=>∃dx dy,RdV K H x dx∧RdV K H y dy∧SeqAt.shaped dx=true∧SeqAt.shaped dy=true∧Q (.bl (!PyData.eqv dx dy)) H
theorem AcY (hu:X.A.units+64<cLine):OpR X (compareOp .Eq) (rEqD X.K):=by
 intro pins s σ H x y v u Q I rx ry h
 obtain⟨dx,dy,hx,hy,sx,sy,q⟩:=h
 obtain⟨as,ra⟩:=hx.reads I rx
 obtain⟨bs,rb⟩:=hy.reads I ry
 exact SeqAt.compareEq_shaped ra rb sx sy hu ⟨.bl _,H,I,rfl,q⟩
theorem kL (hu:X.A.units+64<cLine):OpR X (compareOp .NotEq) (rNeD X.K):=by
 intro pins s σ H x y v u Q I rx ry h
 obtain⟨dx,dy,hx,hy,sx,sy,q⟩:=h
 obtain⟨as,ra⟩:=hx.reads I rx
 obtain⟨bs,rb⟩:=hy.reads I ry
 exact SeqAt.compareNe_shaped ra rb sx sy hu ⟨.bl _,H,I,rfl,q⟩
end
end L2
namespace PySem.SeqAt
open AutoSeq1 (wpAny_loadPart')
open MeetsSeq MeetsSeq2 MeetsSeq3
section
variable {A:Around} {s:Shared}
end
end PySem.SeqAt
namespace L2
open PySem PySem.Spec PyProof.Rows
section
variable {X:Cx}
end
end L2
namespace L2
open PySem PySem.Spec PyProof.Rows
section
variable {κ:Type} [DecidableEq κ]
def eM (kvs:List (κ × V)) (k:κ):Option V:=(kvs.find? fun kv=>decide (kv.1=k)).map (·.2)
def nC (kvs:List (κ × V)) (k:κ) (v:V):List (κ × V):=
 if (kvs.any fun kv=>decide (kv.1=k))=true then kvs.map (fun kv=>if kv.1=k then(kv.1,v) else kv) else kvs++[(k,v)]
theorem kP {p:κ × V} {r:List (κ × V)} {k:κ} (e:p.1=k):eM (p::r) k=some p.2:=by simp [eM,List.find?_cons,e]
theorem kQ {p:κ × V} {r:List (κ × V)} {k:κ} (e:¬ p.1=k):eM (p::r) k=eM r k:=by simp [eM,List.find?_cons,e]
theorem pJ (k:κ):∀kvs:List (κ × V),(kvs.any fun kv=>decide (kv.1=k))=(eM kvs k).isSome
 | []=>rfl
 | p::r=>by
  rw [List.any_cons]
  by_cases e:p.1=k
  ·simp only [kP e,decide_eq_true e,Bool.true_or,Option.isSome_some]
  ·rw [kQ e,decide_eq_false e,Bool.false_or];exact pJ k r
theorem oJ (kvs:List (κ × V)) (k:κ) (v:V):(nC kvs k v).length≤kvs.length+1:=by
 unfold nC
 split
 ·rw [List.length_map];omega
 ·rw [List.length_append,List.length_cons,List.length_nil];omega
theorem vK {kvs:List (κ × V)} {k:κ} (v:V) (h:eM kvs k=none):nC kvs k v=kvs++[(k,v)]:=by
 unfold nC
 rw [pJ,h]
 exact if_neg (by decide)
theorem iM.isSome_eq {o:Option V} {u:Option Value} (r:iM o u):o.isSome=u.isSome:=by
 cases o with
 | none=>cases u with
  | none=>rfl
  | some _=>exact(show False from r).elim
 | some _=>cases u with
  | none=>exact(show False from r).elim
  | some _=>rfl
theorem iM.getD {o:Option V} {u:Option Value} {d:V} {d':Value} (r:iM o u) (rd:cH d d'):cH (o.getD d) (u.getD d'):=by
 cases o with
 | none=>cases u with
  | none=>exact rd
  | some _=>exact(show False from r).elim
 | some _=>cases u with
  | none=>exact(show False from r).elim
  | some _=>exact r
theorem KV.val {kvs:List (κ × V)} {vs:List (κ × Value)} (r:KV kvs vs) (k:κ):iM (eM kvs k) (valueAt vs k):=by
 unfold KV at r
 induction r with
 | nil=>exact True.intro
 | @cons p q ps qs h t ih=>
  obtain⟨h1,h2⟩:=h
  by_cases e:p.1=k
  ·have e':q.1=k:=h1.symm.trans e
   have b:valueAt (q::qs) k=some q.2:=by simp [valueAt,List.find?_cons,e']
   rw [kP e,b];exact h2
  ·have e':¬ q.1=k:=fun z=>e (h1.trans z)
   have b:valueAt (q::qs) k=valueAt qs k:=by simp [valueAt,List.find?_cons,e']
   rw [kQ e,b];exact ih
theorem KV.any {kvs:List (κ × V)} {vs:List (κ × Value)} (r:KV kvs vs) (k:κ):(kvs.any fun kv=>decide (kv.1=k))=vs.any fun kv=>decide (kv.1=k):=by
 unfold KV at r
 induction r with
 | nil=>rfl
 | cons h t ih=>rw [List.any_cons,List.any_cons,ih,h.1]
theorem KV.repl {kvs:List (κ × V)} {vs:List (κ × Value)} (r:KV kvs vs) (k:κ) {y:V} {u:Value} (ry:cH y u):
  KV (kvs.map fun kv=>if kv.1=k then(kv.1,y) else kv) (vs.map fun kv=>if kv.1=k then(kv.1,u) else kv):=by
 unfold KV at r ⊢
 induction r with
 | nil=>exact .nil
 | @cons p q ps qs h t ih=>
  rw [List.map_cons,List.map_cons]
  refine .cons ?_ ih
  obtain⟨h1,h2⟩:=h
  by_cases e:p.1=k
  ·rw [if_pos e,if_pos (h1.symm.trans e)];exact⟨h1,ry⟩
  ·rw [if_neg e,if_neg (fun z=>e (h1.trans z))];exact⟨h1,h2⟩
theorem KV.put {kvs:List (κ × V)} {vs:List (κ × Value)} (r:KV kvs vs) (k:κ) {y:V} {u:Value} (ry:cH y u):KV (nC kvs k y) (stored vs k u):=by
 unfold nC stored
 rw [r.any k]
 by_cases e:(vs.any fun kv=>decide (kv.1=k))=true
 ·rw [if_pos e,if_pos e];exact r.repl k ry
 ·rw [if_neg e,if_neg e];exact Paired.snoc r ⟨rfl,ry⟩
theorem KV.length {kvs:List (κ × V)} {vs:List (κ × Value)} (r:KV kvs vs):kvs.length=vs.length:=Paired.length r
end
theorem sW {P:Program} {w:World} {k:Key} {u:Value} (r:cH (kV k) u):(cV P w).is k u=true:=by
 cases k with
 | inl i=>obtain⟨t,e⟩:=(show ∃t,u=Value.int i t from r);subst e;exact vZ P w i t
 | inr x=>obtain⟨t,e⟩:=(show ∃t,u=Value.str x t from r);subst e;exact vY P w x t
theorem sX {P:Program} {w:World}:∀{ks:List Key} {us:List Value},cB (ks.map kV) us→ItemsAre (cV P w) ks us
 | [],_,r=>by rw [List.map_nil] at r;cases r;exact .nil
 | k::ks,_,r=>by
  rw [List.map_cons] at r
  cases r with
  | cons h t=>exact .cons (sW h) (sX t)
abbrev KT (H:Hp):List (List Key × V)→List (List Key × Addr × Value)→Prop:=Paired fun p q=>p.1=q.1∧H q.2.1=some (.tup (p.1.map kV))∧cH p.2 q.2.2
theorem KT.val {H:Hp} {kvs:List (List Key × V)} {xs:List (List Key × Addr × Value)} (r:KT H kvs xs) (k:List Key):iM (eM kvs k) ((atKey xs k).map (·.2)):=by
 induction r with
 | nil=>exact True.intro
 | @cons p q ps qs h t ih=>
  obtain⟨h1,_,h2⟩:=h
  by_cases e:p.1=k
  ·have e':q.1=k:=h1.symm.trans e
   have b:atKey (q::qs) k=some q.2:=by simp [atKey,List.find?_cons,e']
   rw [kP e,b];exact h2
  ·have e':¬ q.1=k:=fun z=>e (h1.trans z)
   have b:atKey (q::qs) k=atKey qs k:=by simp [atKey,List.find?_cons,e']
   rw [kQ e,b];exact ih
theorem KT.repl {H:Hp} {kvs:List (List Key × V)} {xs:List (List Key × Addr × Value)} (r:KT H kvs xs) (k:List Key) {y:V} {u:Value} (ry:cH y u):
  KT H (kvs.map fun kv=>if kv.1=k then(kv.1,y) else kv) (xs.map (putAt k u)):=by
 induction r with
 | nil=>exact .nil
 | @cons p q ps qs h t ih=>
  rw [List.map_cons,List.map_cons]
  refine .cons ?_ ih
  obtain⟨h1,h2,h3⟩:=h
  unfold putAt
  by_cases e:p.1=k
  ·rw [if_pos e,if_pos (h1.symm.trans e)];exact⟨h1,h2,ry⟩
  ·rw [if_neg e,if_neg (fun z=>e (h1.trans z))];exact⟨h1,h2,h3⟩
theorem KT.put {H:Hp} {kvs:List (List Key × V)} {xs:List (List Key × Addr × Value)} (r:KT H kvs xs) (k:List Key) {b:Addr} {y:V} {u:Value} (hb:H b=some (.tup (k.map kV))) (ry:cH y u):
  KT H (nC kvs k y) (storedH xs k b u):=by
 have e:(kvs.any fun kv=>decide (kv.1=k))=(atKey xs k).isSome:=by
  rw [pJ,(r.val k).isSome_eq,Option.isSome_map]
 unfold nC storedH
 rw [e]
 by_cases q:(atKey xs k).isSome=true
 ·rw [if_pos q,if_pos q];exact r.repl k ry
 ·rw [if_neg q,if_neg q];exact Paired.snoc r ⟨rfl,hb,ry⟩
theorem KT.keeps {H H':Hp} {kvs:List (List Key × V)} {xs:List (List Key × Addr × Value)} (r:KT H kvs xs) (ht:∀b ys,H b=some (.tup ys)→H' b=some (.tup ys)):KT H' kvs xs:=
 Paired.mapP r fun _ _ z=>⟨z.1,ht _ _ z.2.1,z.2.2⟩
section
variable {P:Program} {w:World} {H:Hp} {h:Heap} {a:Addr}
theorem rd_of {u:HO} (ok:HOk P w H h) (e:Rd H a u):cE P w H h a u:=e.ok ok
theorem rD {kvs:List (Key × V)} (ok:HOk P w H h) (e:Rd H a (.dK kvs)):kvs.length≤sizeLine∧(a == sysModules)=false∧∃vs,KV kvs vs∧h.DictOf (cV P w) a vs:=
 show cE P w H h a (.dK kvs) from rd_of ok e
theorem dk_of {kvs:List (Key × V)} (ok:HOk P w H h) (e:H a=some (.dK kvs)):kvs.length≤sizeLine∧(a == sysModules)=false∧∃vs,KV kvs vs∧h.DictOf (cV P w) a vs:=rD ok (.inl e)
theorem nK {ks:List Key} (ok:HOk P w H h) (e:H a=some (.tup (ks.map kV))):(tupleKind (cV P w)).is h ks a:=by
 obtain⟨_,its,r,o,h1,h2,n,h3⟩:=(show cE P w H h a (.tup (ks.map kV)) from ok a _ e)
 exact⟨o,its.toArray,n,h1,h2,h3,by simpa using sX r⟩
theorem rB {kvs:List (List Key × V)} (ok:HOk P w H h) (e:Rd H a (.dT kvs)):kvs.length≤sizeLine∧(a == sysModules)=false ∧
  ∃xs,KT H kvs xs∧h.DictOfH (tupleKind (cV P w)) a xs:=by
 obtain⟨z,y,xs,r,o,es,ep,h1,h2,h3,h4,h5⟩:=(show cE P w H h a (.dT kvs) from rd_of ok e)
 refine⟨z,y,xs,r,o,es,ep,h1,h2,h3,h4,fun x hx=>?_,h5⟩
 have all:∀{l:List (List Key × V)} {m:List (List Key × Addr × Value)},KT H l m→∀x ∈ m,(tupleKind (cV P w)).is h x.1 x.2.1:=by
  intro l m q
  induction q with
  | nil=>intro x hx;exact nomatch hx
  | @cons p q ps qs hq t ih=>
   intro x hx
   rcases List.mem_cons.mp hx with e|hx
   ·subst e
    exact nK ok (by rw [← hq.1];exact hq.2.1)
   ·exact ih x hx
 exact all r x hx
theorem dt_of {kvs:List (List Key × V)} (ok:HOk P w H h) (e:H a=some (.dT kvs)):kvs.length≤sizeLine∧(a == sysModules)=false ∧
  ∃xs,KT H kvs xs∧h.DictOfH (tupleKind (cV P w)) a xs:=rB ok (.inl e)
end
def jU (H:Hp) (a:Addr) (y:V) (r:Option V):Prop:=
 (∃kvs k,Rd H a (.dK kvs)∧y=kV k∧r=eM kvs k)∨∃kvs k b,Rd H a (.dT kvs)∧y=.ref b∧H b=some (.tup (k.map kV))∧r=eM kvs k
def DPut (H:Hp) (a:Addr) (y v:V) (H':Hp):Prop:=
 (∃kvs k,H a=some (.dK kvs)∧y=kV k∧kvs.length<sizeLine∧H'=upd H a (.dK (nC kvs k v))) ∨
 ∃kvs k b,H a=some (.dT kvs)∧y=.ref b∧H b=some (.tup (k.map kV))∧kvs.length<sizeLine∧H'=upd H a (.dT (nC kvs k v))
theorem jU.k {H:Hp} {a:Addr} {kvs:List (Key × V)} {k:Key} (e:H a=some (.dK kvs)):jU H a (kV k) (eM kvs k):=.inl ⟨kvs,k,.inl e,rfl,rfl⟩
theorem DPut.k {H:Hp} {a:Addr} {kvs:List (Key × V)} {k:Key} {v:V} (e:H a=some (.dK kvs)) (hl:kvs.length<sizeLine):DPut H a (kV k) v (upd H a (.dK (nC kvs k v))):=.inl ⟨kvs,k,e,rfl,hl,rfl⟩
section
variable {X:Cx} {pins:List (Addr × Obj)} {σ:St} {H:Hp} {s:Shared} {a:Addr} {y v:V} {u r:Value} {o:Option V} {A:Around} {E:Value→Shared→Prop}
theorem Inv.big (I:Inv X pins σ H s):sysModules<s.heap.objs.size:=by
 have h:mainGlobals<s.heap.objs.size:=(I.mod.glob.keeps I.bk).lt
 exact Nat.lt_trans (by decide) h
theorem AbI {Q:Value→Shared→Prop} (hu:A.units+1<cLine) (I:Inv X pins σ H s) (g:jU H a y (some v)) (ry:cH y u) (h:∀w' s',Inv X pins σ H s'→cH v w'→Q w' s'):
  wpAny (model X.prog X.w) A (getItem (.ref a) u) Q E s:=by
 rcases g with ⟨kvs,k,e,ey,l⟩|⟨kvs,k,b,e,ey,eb,l⟩
 ·subst ey
  obtain⟨z,hd,vs,rel,dd⟩:=rD I.hok e
  obtain⟨w',hw,rw'⟩:=iM.some_of (v:=v) (o:=valueAt vs k) (by rw [l];exact rel.val k)
  exact wpAny_getItem_of (sW ry) dd.mapOf hw (h w' _ (I.tok _) rw')
 ·subst ey
  cases (show u=Value.ref b from ry)
  obtain⟨z,hd,xs,rel,dd⟩:=rB I.hok e
  obtain⟨w',hw,rw'⟩:=iM.some_of (v:=v) (o:=(atKey xs k).map (·.2)) (by rw [l];exact rel.val k)
  obtain⟨p,hp,hp2⟩:=Option.map_eq_some_iff.mp hw
  refine wpAny_getItem_heap (tupleKind_room_in1 hu) (nK I.hok eb) dd hp ?_
  rw [hp2]
  exact h w' _ (I.tok _) rw'
theorem d_in {Q:Value→Shared→Prop} (hu:A.units+1<cLine) (I:Inv X pins σ H s) (g:jU H a y o) (ry:cH y u) (h:∀s',Inv X pins σ H s'→Q (.bool o.isSome) s'):
  wpAny (model X.prog X.w) A (compareOp .In u (.ref a)) Q E s:=by
 rcases g with ⟨kvs,k,e,ey,l⟩|⟨kvs,k,b,e,ey,eb,l⟩
 ·subst ey
  obtain⟨z,hd,vs,rel,dd⟩:=rD I.hok e
  refine wpAny_in_of (sW ry) hd dd.mapOf ?_
  rw [← (rel.val k).isSome_eq,← l]
  exact h _ (I.tok _)
 ·subst ey
  cases (show u=Value.ref b from ry)
  obtain⟨z,hd,xs,rel,dd⟩:=rB I.hok e
  refine wpAny_in_heap (tupleKind_room_in1 hu) (nK I.hok eb) hd dd ?_
  have q:=(rel.val k).isSome_eq
  rw [Option.isSome_map] at q
  rw [← q,← l]
  exact h _ (I.tok _)
theorem d_notIn {Q:Value→Shared→Prop} (hu:A.units+1<cLine) (I:Inv X pins σ H s) (g:jU H a y o) (ry:cH y u) (h:∀s',Inv X pins σ H s'→Q (.bool (!o.isSome)) s'):
  wpAny (model X.prog X.w) A (compareOp .NotIn u (.ref a)) Q E s:=by
 rcases g with ⟨kvs,k,e,ey,l⟩|⟨kvs,k,b,e,ey,eb,l⟩
 ·subst ey
  obtain⟨z,hd,vs,rel,dd⟩:=rD I.hok e
  refine wpAny_notIn_of (sW ry) hd dd.mapOf ?_
  rw [← (rel.val k).isSome_eq,← l]
  exact h _ (I.tok _)
 ·subst ey
  cases (show u=Value.ref b from ry)
  obtain⟨z,hd,xs,rel,dd⟩:=rB I.hok e
  refine wpAny_notIn_heap (tupleKind_room_in1 hu) (nK I.hok eb) hd dd ?_
  have q:=(rel.val k).isSome_eq
  rw [Option.isSome_map] at q
  rw [← q,← l]
  exact h _ (I.tok _)
theorem zP {h':Heap} {t':Nat} {ob:HO} (I:Inv X pins σ H s) (mu:Mut (H a)) (hs:Heap.SameBut a s.heap h') (he:∃q,h'.get? a=some q) (new:cE X.prog X.w (upd H a ob) h' a ob):
  Inv X pins σ (upd H a ob) { s with heap:=h',toks:=t' }:=
 I.write (x:=a) (e:=a) mu (.inl rfl) (fun b q hb z=>(hs.2 b hb).trans z) he new
theorem dk_new {P:Program} {w:World} {H':Hp} {h':Heap} {kvs:List (Key × V)} {vs:List (Key × Value)} (z:kvs.length≤sizeLine) (hd:(a == sysModules)=false) (rel:KV kvs vs) (dd:h'.DictOf (cV P w) a vs):
  cE P w H' h' a (.dK kvs):=⟨z,hd,vs,rel,dd⟩
theorem AbH {H':Hp} {Q:Unit→Shared→Prop} (hu:A.units+1<cLine) (I:Inv X pins σ H s) (g:DPut H a y v H') (ry:cH y u) (rv:cH v r) (h:∀s',Inv X pins σ H' s'→Q () s'):
  wpAny (model X.prog X.w) A (setItem (.ref a) u r) Q E s:=by
 rcases g with ⟨kvs,k,e,ey,l,eH⟩|⟨kvs,k,b,e,ey,eb,l,eH⟩
 ·subst ey eH
  obtain⟨z,hd,vs,rel,dd⟩:=dk_of I.hok e
  have hz:vs.length≤sizeLine:=by rw [← rel.length];exact z
  have hl:(nC kvs k v).length≤sizeLine:=by have:=oJ kvs k v;omega
  refine wpAny_setItem_pairs (hsz:=hz) (sW ry) dd fun h' dd' hs=>h _ ?_
  have he:∃q,h'.get? a=some q:=let ⟨q,_,_,hq,_⟩:=dd';⟨q,hq⟩
  exact zP I (by rw [e];exact True.intro) hs he (dk_new hl hd (rel.put k rv) dd')
 ·subst ey eH
  cases (show u=Value.ref b from ry)
  obtain⟨z,hd,xs,rel,dd⟩:=dt_of I.hok e
  have hz:xs.length≤sizeLine:=by rw [← Paired.length rel];exact z
  have hl:(nC kvs k v).length≤sizeLine:=by have:=oJ kvs k v;omega
  refine wpAny_setItem_heap (hsz:=hz) (tupleKind_room_in1 hu) (nK I.hok eb) dd fun h' dd' hs=>h _ ?_
  obtain⟨q,es,ep,hq,h2,h3,h4,_,h5⟩:=dd'
  refine zP I (by rw [e];exact True.intro) hs ⟨q,hq⟩ ⟨hl,hd,_,(rel.put k eb rv).keeps fun c ys ec=>?_,q,es,ep,hq,h2,h3,h4,h5⟩
  rw [aC (aW ec e (fun z=>nomatch z))]
  exact ec
end
section
variable {X:Cx} {pins:List (Addr × Obj)} {σ:St} {H:Hp} {s:Shared} {a:Addr} {kvs:List (Key × V)} {k:Key} {u:Value} {A:Around} {E:Value→Shared→Prop}
end
def NoSl (i:Expr):Prop:=∀ov iv,subscripted i false ov iv=operate [ov,iv] (getItem ov iv)
theorem subD_of {prog:Program} {w:World} {A:Around} {E:Value→Shared→Prop} {s:Shared} {env:Env} {value slice:Expr} {pos:Pos} {T id:String} {Q:Value→Shared→Prop}
  (hl:typeLookup (.type T) "__getitem__"=pure (some (.builtin id))) (hs:NoSl slice)
  (h:wpAny (model prog w) A (eval value env) (fun o s₁=>wpAny (model prog w) A (eval slice env) (fun i s₂=>s₂.TypeIs o T∧wpAny (model prog w) A (getItem o i) Q E s₂) E s₁) E s):
  wpAny (model prog w) A (eval (.Subscript value slice pos) env) Q E s:=by
 refine Subscript_ (wpAny_mono h (fun o s₁ h₁=>wpAny_mono h₁ (fun i s₂ h₂=>?_) fun _ _ x=>x) fun _ _ x=>x)
 obtain⟨hT,h₂⟩:=h₂
 unfold subscriptTail
 refine wpAny_bind ?_
 rw [getitemInPython_of_ne hT.not_modules]
 refine wpAny_bind (wpAny_specialOf hT hl ?_)
 have fin:wpAny (model prog w) A (subscripted slice false o i) (fun r s₃=>wpAny (model prog w) A (letTemporaryGo value o r >>= fun _=>pure r) Q E s₃) E s₂:=by
  rw [hs o i]
  exact wpAny_operating (wpAny_mono h₂ (fun r s₃ h₃=>wpAny_bind (wpAny_letTemporaryGo (wpAny_pure h₃))) fun _ _ x=>x)
 first
  | exact wpAny_pure (wpAny_bind fin)
  | exact wpAny_bind (wpAny_pure (wpAny_bind fin))
  | exact wpAny_bind fin
theorem wJ {X:Cx} {pins:List (Addr × Obj)} {σ:St} {H:Hp} {s:Shared} {a:Addr} {y:V} {o:Option V} (I:Inv X pins σ H s) (g:jU H a y o):s.TypeIs (.ref a) "dict":=by
 rcases g with ⟨kvs,k,e,_,_⟩|⟨kvs,k,b,e,_,_,_⟩
 ·obtain⟨_,_,vs,_,dd⟩:=rD I.hok e
  exact dd.typeIs
 ·obtain⟨_,_,xs,_,dd⟩:=rB I.hok e
  exact dd.typeIs
def tDGet (td ty:TE):TE:=fun σ H Q=>td σ H fun x H1=>ty σ H1 fun y H2=>∃a v,x=.ref a∧jU H2 a y (some v)∧Q v H2
def tDIn (ty td:TE):TE:=fun σ H Q=>ty σ H fun y H1=>td σ H1 fun x H2=>∃a o,x=.ref a∧jU H2 a y o∧Q (.bl o.isSome) H2
def tDNotIn (ty td:TE):TE:=fun σ H Q=>ty σ H fun y H1=>td σ H1 fun x H2=>∃a o,x=.ref a∧jU H2 a y o∧Q (.bl (!o.isSome)) H2
def sDPut (td ty tv:TE):TS:=fun D σ H=>tv σ H fun v H1=>td σ H1 fun x H2=>ty σ H2 fun y H3=>∃a H4,x=.ref a∧DPut H3 a y v H4∧D.nx σ H4
section
variable {X:Cx} {o i e value:Expr} {pos pos' tpos:Pos} {td ty tv:TE}
theorem yX (hu:X.A.units+1<cLine) (ho:PE X o td) (hi:PE X i ty) (hs:NoSl i):PE X (.Subscript o i pos) (tDGet td ty):=by
 intro pins s σ H Q I h
 refine subD_of PySem.F.slot_dict_getitem.lookup hs (thn (ho pins s σ H _ I h) fun u s1 ⟨x,H1,I1,rx,q1⟩=>thn (hi pins s1 σ H1 _ I1 q1) fun iv s2 ⟨y,H2,I2,ry,a,v,ex,g,q2⟩=>?_)
 subst ex
 obtain rfl:u=Value.ref a:=rx
 exact⟨wJ I2 g,AbI hu I2 g ry fun w' s3 I3 rw'=>⟨v,H2,I3,rw',q2⟩⟩
theorem pc_din (hu:X.A.units+1<cLine) (hi:PE X i ty) (ho:PE X o td):PC X .In i o (tDIn ty td):=by
 intro pins s σ H Q I h
 refine thn (hi pins s σ H _ I h) fun iv s1 ⟨y,H1,I1,ry,q1⟩=>thn (ho pins s1 σ H1 _ I1 q1) fun u s2 ⟨x,H2,I2,rx,a,ov,ex,g,q2⟩=>?_
 subst ex
 obtain rfl:u=Value.ref a:=rx
 exact d_in hu I2 g ry fun s3 I3=>⟨.bl ov.isSome,H2,I3,rfl,q2⟩
theorem AaK (hu:X.A.units+1<cLine) (hi:PE X i ty) (ho:PE X o td):PC X .NotIn i o (tDNotIn ty td):=by
 intro pins s σ H Q I h
 refine thn (hi pins s σ H _ I h) fun iv s1 ⟨y,H1,I1,ry,q1⟩=>thn (ho pins s1 σ H1 _ I1 q1) fun u s2 ⟨x,H2,I2,rx,a,ov,ex,g,q2⟩=>?_
 subst ex
 obtain rfl:u=Value.ref a:=rx
 exact d_notIn hu I2 g ry fun s3 I3=>⟨.bl (!ov.isSome),H2,I3,rfl,q2⟩
theorem yS (hu:X.A.units+1<cLine) (ho:PE X o td) (hi:PE X i ty) (hv:PE X value tv) (hs:swapsWith value (some (.Subscript o i pos')) pos.line X.env=pure false):
  PS X (.Assign [.Subscript o i pos'] value pos) (sDPut td ty tv):=by
 intro pins s σ H D I h
 refine wpAny_Assign_Subscript (thn (hv pins s σ H _ I h) fun r s1 ⟨v,H1,I1,rv,q1⟩=>thn (ho pins s1 σ H1 _ I1 q1) fun u s2 ⟨x,H2,I2,rx,q2⟩=>thn (hi pins s2 σ H2 _ I2 q2) fun iv s3 ⟨y,H3,I3,ry,a,H4,ex,g,q3⟩=>?_) hs
 subst ex
 obtain rfl:u=Value.ref a:=rx
 exact AbH hu I3 g ry rv fun s4 I4=>⟨σ,H4,I4,q3⟩
end
theorem AeG {P:Program} {w:World} {H:Hp} (h:Heap) (hb:sysModules<h.objs.size):cE P w H (h.push { cls:=.type "dict",data:=.dict #[] }) h.objs.size (.dK []):=
 ⟨Nat.zero_le _,beq_eq_false_iff_ne.mpr (Ne.symm (Nat.ne_of_lt hb)),[],.nil,Heap.DictOf.new h⟩
def tDNewK:TE:=fun _ H Q=>∀p,H p=none→Q (.ref p) (upd H p (.dK []))
section
variable {X:Cx} {pos:Pos}
theorem vM:PE X (.Dict [] [] pos) tDNewK:=fun pins s σ H Q I h=>
 wpAny_Dict_empty ⟨.ref s.heap.objs.size,_,I.laid (a:=s.heap.objs.size) (o:=.dK []) (t':=s.toks) (fun _ _ q=>Heap.get?_push_of_some _ q) (Nat.le_refl _) (AeG s.heap I.big),rfl,h _ (I.hok.fresh (Nat.le_refl _))⟩
end
structure M1 (X:Cx) (o:Expr) (m:Str) (apos:Pos) (e:Expr) (cpos:Pos):Prop where
 base:attributeBase o m X.env (eval o X.env)=eval o X.env
 few:((backTo cpos (starEach [e] X.env)).all (fun x=>!x.1) && (backToKw cpos (keywordEach [] X.env)).all (fun x=>x.1.isSome)
  && decide (([e]:List Expr).length+([]:List Keyword).length+(if ([]:List Keyword).isEmpty then 0 else 1)<30))=true
 line:(apos.endLine == cpos.line)=true
 trees:backTo cpos (starEach [e] X.env)=[(false,eval e X.env)]
def IsD (H:Hp) (a:Addr):Prop:=(∃kvs,Rd H a (.dK kvs))∨∃kvs,Rd H a (.dT kvs)
theorem isD_at {X:Cx} {pins:List (Addr × Obj)} {σ:St} {H:Hp} {s:Shared} {a:Addr} (I:Inv X pins σ H s) (d:IsD H a):
  s.TypeIs (.ref a) "dict"∧(∀b,Value.ref a=.ref b→∃ob,s.heap.get? b=some ob∧ob.dict=none)∧(a == sysModules)=false:=by
 rcases d with ⟨kvs,e⟩|⟨kvs,e⟩
 ·obtain⟨_,hd,vs,_,dd⟩:=rD I.hok e
  refine⟨dd.typeIs,fun b q=>?_,hd⟩
  cases q
  obtain⟨ob,_,_,h1,h2,_⟩:=dd
  exact⟨ob,h1,h2.2.1⟩
 ·obtain⟨_,hd,xs,_,dd⟩:=rB I.hok e
  refine⟨dd.typeIs,fun b q=>?_,hd⟩
  cases q
  obtain⟨ob,_,_,h1,h2,_⟩:=dd
  exact⟨ob,h1,h2.2.1⟩
section
variable {X:Cx} {pins:List (Addr × Obj)} {σ:St} {H:Hp} {s:Shared} {a:Addr} {y d:V} {u r:Value} {o:Option V} {A:Around} {E:Value→Shared→Prop}
theorem d_get1 {Q:Value→Shared→Prop} (hu:A.units+1<cLine) (I:Inv X pins σ H s) (g:jU H a y o) (ry:cH y u) (h:∀w' s',Inv X pins σ H s'→cH (o.getD .non) w'→Q w' s'):
  wpAny (model X.prog X.w) A (call (.builtin "dict.get") [.ref a,u]) Q E s:=by
 rcases g with ⟨kvs,k,e,ey,l⟩|⟨kvs,k,b,e,ey,eb,l⟩
 ·subst ey
  obtain⟨z,hd,vs,rel,dd⟩:=rD I.hok e
  refine call_meetsIn PySem.F.slot_dict_get dd.typeIs PySem.F.entry_dict_get (PySem.F.args_dict_get_2 _ _) (meets_dict_get (cV X.prog X.w) a (sW ry) hd) ⟨_,dd.mapOf,h _ _ (I.tok _) ?_⟩
  rw [l]
  exact(rel.val k).getD rfl
 ·subst ey
  cases (show u=Value.ref b from ry)
  obtain⟨z,hd,xs,rel,dd⟩:=rB I.hok e
  refine call_meetsIn PySem.F.slot_dict_get dd.typeIs PySem.F.entry_dict_get (PySem.F.args_dict_get_2 _ _) (meetsH_dict_get (tupleKind (cV X.prog X.w)) a b hd) ⟨tupleKind_room_in1 hu,k,xs,nK I.hok eb,dd,h _ _ (I.tok _) ?_⟩
  rw [l]
  exact(rel.val k).getD rfl
end
def tDGet1 (td ty:TE):TE:=fun σ H Q=>td σ H fun x H1=>∃a,x=.ref a∧IsD H1 a∧ty σ H1 fun y H2=>∃o,jU H2 a y o∧Q (o.getD .non) H2
section
variable {X:Cx} {o e f:Expr} {apos cpos:Pos} {td ty tx:TE}
theorem AcU (hu:X.A.units+1<cLine) (ho:PE X o td) (he:PE X e ty) (m:M1 X o "get" apos e cpos):PE X (.Call (.Attribute o "get" apos) [e] [] cpos) (tDGet1 td ty):=by
 intro pins s σ H Q I h
 refine wpAny_Call_method m.base m.few m.line PySem.F.plainAttrs_dict PySem.F.slot_dict_get PySem.F.type_dict_get (thn (ho pins s σ H _ I h) fun u s1 ⟨x,H1,I1,rx,a,ex,d,q1⟩=>?_)
 subst ex
 obtain rfl:u=Value.ref a:=rx
 obtain⟨t1,t2,_⟩:=isD_at I1 d
 refine⟨t1,t2,?_⟩
 rw [m.trees]
 refine Calls.callWith_builtin rfl (Calls.evalArgs_plain (Calls.spliced_cons (thn (he pins s1 σ H1 _ I1 q1) fun iv s2 ⟨y,H2,I2,ry,ov,g,q2⟩=>Calls.spliced_nil ?_)))
 exact d_get1 hu I2 g ry fun w' s3 I3 rw'=>⟨_,H2,I3,rw',q2⟩
end
section
variable {X:Cx} {pins:List (Addr × Obj)} {σ:St} {H:Hp} {s:Shared} {a:Addr} {kvs:List (Key × V)} {A:Around} {E:Value→Shared→Prop}
end
section
variable {X:Cx} {pins:List (Addr × Obj)} {σ:St} {H:Hp} {s:Shared} {a:Addr} {y:V} {u:Value} {A:Around} {E:Value→Shared→Prop}
end
end L2
namespace L2
open PySem PySem.Spec PyProof.Rows
section
variable {X:Cx}
def rCatA:R2:=fun x y H Q=>∃a b xs ys,x=.ref a∧y=.ref b∧H a=some (.tup xs)∧H b=some (.tup ys)∧xs.length+ys.length≤sizeLine ∧
 ∀p H',aL H H'→H' p=some (.tup (xs++ys))→Q (.ref p) H'
theorem aI {H:Hp} {p:Addr} {o:HO} (h:H p=none):aL H (upd H p o):=fun b u q=>by
 rw [aC (aG q h)]
 exact q
theorem yY:OpR X (binaryOp .Add) rCatA:=by
 intro pins s σ H x y v u Q I rx ry h
 obtain⟨a,b,xs,ys,rfl,rfl,ha,hb,hz,q⟩:=h
 by_cases hx:xs=[]
 ·subst hx
  cases (show v=Value.ref a from rx)
  cases (show u=Value.ref b from ry)
  obtain⟨its,r1,p1,_⟩:=I.tuple (SqT.of ha)
  obtain⟨its2,r2,p2,_⟩:=I.tuple (SqT.of hb)
  cases r1
  obtain⟨⟨cls,dd,data,sl⟩,ho,hc,n,hd⟩:=p1
  obtain⟨⟨cls2,dd2,data2,sl2⟩,ho2,hc2,n2,hd2⟩:=p2
  simp only at hc hd hc2 hd2
  subst hc hd hc2 hd2
  exact concat_meets ⟨_,ho,rfl⟩ ⟨_,ho2,rfl⟩ noFill_tuple_add seq_tuple_add PySem.F.slot_tuple_add PySem.F.entry_tuple_add (PySem.F.args_tuple_add_2 _ _)
   (tuple_addW0 a b _ its2.toArray n n2 dd dd2 sl sl2 rfl) ⟨ho,ho2,⟨.ref b,H,I,rfl,q b H (aL.refl H) (by simpa using hb)⟩⟩
 ·refine op_catT pins s σ H _ _ v u Q I rx ry ⟨a,b,xs,ys,rfl,rfl,SqT.of ha,SqT.of hb,hx,hz,fun z=>?_,fun z p hp=>?_⟩
  ·subst z
   exact q a H (aL.refl H) (by simpa using ha)
  ·exact q p _ (aI hp) aB
theorem vP:OpR X (binaryOp .FloorDiv) (rI (fun _ j=>0<j∧j<2 ^ 64) fun i j=>.int (i / j)):=opI fun i j _ _ _ _ _ hc q=>by
 have e:i.fdiv j=i / j:=Int.fdiv_eq_ediv_of_nonneg _ (Int.le_of_lt hc.1)
 rw [← e] at q
 refine floordiv_int (Int.ne_of_gt hc.1) q (.inl (PyProof.noPylong_of_log2 ?_))
 have h1:j.natAbs<2 ^ 64:=by omega
 have h2:j.natAbs≠0:=by omega
 have h3:j.natAbs.log2<64:=(Nat.log2_lt h2).mpr h1
 omega
end
end L2
namespace HT
open PySem PyProof.Rows
section
variable {prog:Program} {w:World} {A:Around} {E:Value→Shared→Prop} {s:Shared}
theorem getItem_tuple_all {t sl:Addr} {items:Array Value} {vl vu:Value} {lo hi:Option Int} {Q:Value→Shared→Prop} (ht:IsTup s.heap t items) (hs:s.heap.IsSliceOf sl vl vu .none) (pl:IsPart vl lo) (pu:IsPart vu hi)
  (hw:sIx items.size 0 lo=0∧sIx items.size items.size hi=items.size) (h:Q (.ref t) s):wpAny (model prog w) A (getItem (.ref t) (.ref sl)) Q E s:=by
 obtain⟨os,hos,hcs,hds⟩:=id hs
 have hTs:s.TypeIs (.ref sl) "slice":=⟨os,hos,hcs⟩
 unfold getItem
 try with_reducible refine wpAny_holding ?_
 first|refine wpAny_bind (wpAny_pure ?_)|skip
 refine wpAny_bind (wpAny_sequenceKey ht.typeIs (by decide) ?_)
 refine wpAny_bind (wpAny_callSpecial?_slot (name:=Str.ofString "__getitem__") ht.typeIs PyProof.Rows.slot_tuple_getitem
  (wpAny_call_entry PyProof.Rows.slot_tuple_getitem ht.typeIs entry_tuple_getitem ?_ (args_tuple_getitem _ _)))
 show wpAny _ _ (Builtin.Tuple.tupleItemsOf (.ref t) >>= _) _ _ s
 refine wpAny_bind (tupleItemsOf_ ht ?_)
 refine wpAny_bind (wpAny_typeOf hTs ?_)
 rw [if_pos (by decide)]
 refine wpAny_bind (gZ hs pl pu ?_)
 have hyes:(((sIx items.size 0 lo:Nat):Int) == 0 && (1:Int) == 1 && (sIx items.size items.size hi-sIx items.size 0 lo) == items.size)=true:=by
  rw [hw.1,hw.2]
  simp
 show wpAny _ _ (if (((sIx items.size 0 lo:Nat):Int) == 0 && (1:Int) == 1 && (sIx items.size items.size hi-sIx items.size 0 lo) == items.size)=true then _ else _) _ _ s
 rw [if_pos hyes]
 obtain⟨o,ho,hc,n,hd⟩:=id ht
 refine wpAny_bind ?_
 unfold Builtin.Tuple.tupleIsExact
 refine wpAny_bind (wpAny_typeOf ht.typeIs ?_)
 refine wpAny_pure ?_
 rw [if_pos (by decide)]
 refine wpAny_bind (wpAny_rule ?_)
 exact wpAny_pure ⟨_,rfl,wpAny_pure h⟩
end
end HT
namespace L2
open PySem PySem.Spec PyProof.Rows
section
variable {X:Cx}
def rSlA:V→Option Int→Option Int→Hp→VK→Prop:=fun x lo hi H Q=>∃a xs,x=.ref a∧H a=some (.tup xs)∧∀p H',aL H H'→H' p=some (.tup (nV xs lo hi))→Q (.ref p) H'
theorem sl_all:SlR X rSlA:=by
 intro pins s σ H x v vl vu lo hi sl Q I rx hs pl pu h
 obtain⟨a,xs,rfl,hx,q⟩:=h
 by_cases hw:HT.sIx xs.length 0 lo=0∧HT.sIx xs.length xs.length hi=xs.length
 ·cases (show v=Value.ref a from rx)
  obtain⟨its,r,ht,hz⟩:=I.tuple (SqT.of hx)
  have hlen:its.toArray.size=xs.length:=by rw [List.size_toArray];exact r.length.symm
  refine⟨"tuple",_,PyProof.Rows.slot_tuple_getitem.lookup,ht.typeIs,?_⟩
  refine HT.getItem_tuple_all ht hs pl pu (by rw [hlen];exact hw) ⟨.ref a,H,I,rfl,q a H (aL.refl H) ?_⟩
  have e:nV xs lo hi=xs:=by
   unfold nV
   rw [hw.1,hw.2]
   simp
  rw [e]
  exact hx
 ·exact sl_tup pins s σ H _ v vl vu lo hi sl Q I rx hs pl pu ⟨a,xs,rfl,SqT.of hx,hw,fun p hp=>q p _ (aI hp) aB⟩
end
end L2
namespace L2
open PySem PySem.Spec PyProof.Rows
def yZ:Expr→Bool
 | .Starred _ _=>false
 | _=>true
theorem vE {e:Expr} {es:List Expr} {env:Env} (h:yZ e=true):starEach (e::es) env=(false,eval e env)::starEach es env:=by
 cases e <;> first|rfl|cases h
structure PAc (X:Cx) (es:List Expr) (t:TA):Prop where
 h:PA X es t
theorem pcn {X:Cx}:PAc X [] lR:=⟨aE⟩
theorem pcc {X:Cx} {e:Expr} {es:List Expr} {te:TE} {t:TA} (ha:PE X e te) (hr:PAc X es t) (h:yZ e=true:=by rfl):PAc X (e::es) (gX te t):=⟨aA ha hr.h (vE h)⟩
structure PEc (X:Cx) (e:Expr) (t:TE):Prop where
 h:PE X e t
theorem yW {X:Cx} {es:List Expr} {t:TA} {pos:Pos} (h:PAc X es t):PEc X (.List es pos) (tLst t):=⟨dG h.h⟩
end L2
namespace L2
open PySem PySem.Spec PyProof.Rows
structure PSsc (X:Cx) (st:List Stmt) (t:TS):Prop where
 h:PSs X st t
section
variable {X:Cx}
end
end L2
namespace L2
open PySem PySem.Spec PyProof.Rows
abbrev Cx.blkF (X:Cx) (NB:List Str) (scope:Scope) (cl:List (Str × Addr)) (C:Addr) (s:Shared) (H:Hp) (fp:List Addr) (pn:List (Addr × Obj)):Cx:=
 { X with N:=NB,s₀:=s,H₀:=H,env:=compEnvC scope cl C X.env,outer:=X.stack,ex:=fp,fn:=fun _=>false,pn:=pn,xe:=fun _ _=>False }
def iF (n:Nat) (js:List Nat) (σ:St):St:=List.replicate n none++js.map fun j=>(σ[j]?).join
def AbX (n:Nat) (js:List Nat) (wi:TI) (g:TG) (tc:TT) (te:TE):TE:=fun σ H Q=>wi σ H fun J H1=>∀acc,H1 acc=none →
 ∃W:Nat→Nat→List V→Hp→Prop,(∃m,W 0 m [] (upd H1 acc (.lst [])))∧∀i m ys H,W i m ys H→H acc=some (.lst ys) ∧
  ((J.stop i H∧Q (.ref acc) H)∨(J.go i H∧∀x H',J.yld i H x H'→g x (iF n js σ) H' fun σ2 H2=>σ2.drop n=(iF n js σ).drop n∧tc σ2 H2 fun b H3=>
   if b=true then te σ2 H3 fun y H4=>H4 acc=some (.lst ys)∧ys.length<sizeLine∧∃m',m'<m∧W (i+1) m' (ys++[y]) (upd H4 acc (.lst (ys++[y])))
   else ∃m',m'<m∧W (i+1) m' ys H3))
structure iJ (X:Cx) (NB:List Str) (n:Nat) (js:List Nat) (scope:Scope) (cl:List (Str × Addr)):Prop where
 clo:closureFor scope X.env=pure cl
 sub:∀x c,cl.lookup x=some c→X.env.cells.lookup x=some c
 has:∀x,((relabel scope X.env).names.lookup x=some .cell∨(relabel scope X.env).names.lookup x=some .free)→(cl.lookup x).isSome=true
 len:NB.length=n+js.length
 nam:∀k j,js[k]?=some j→NB[n+k]?=X.N[j]?
 ck:∀x,Vis (relabel scope X.env) x→x ∈ NB.drop n→((relabel scope X.env).names.lookup x=some .cell∨(relabel scope X.env).names.lookup x=some .free)∧(X.env.kindOf x=some .cell∨X.env.kindOf x=some .free)∧(cl.lookup x).isSome=true
section
variable {X:Cx} {NB:List Str} {n:Nat} {js:List Nat} {scope:Scope} {cl:List (Str × Addr)}
theorem nY (T:iJ X NB n js scope cl) (σ:St):(iF n js σ).length=NB.length:=by
 unfold iF
 rw [List.length_append,List.length_replicate,List.length_map,T.len]
theorem rF {σ:St} {i:Nat} {v:V} (h:(iF n js σ)[i]?=some (some v)):∃k j,i=n+k∧js[k]?=some j∧σ[j]?=some (some v):=by
 unfold iF at h
 rcases Nat.lt_or_ge i n with c|c
 ·rw [List.getElem?_append_left (by rw [List.length_replicate];exact c),List.getElem?_replicate,if_pos c] at h
  cases h
 ·rw [List.getElem?_append_right (by rw [List.length_replicate];exact c),List.length_replicate,List.getElem?_map] at h
  cases hj:js[i-n]? with
  | none=>rw [hj] at h;cases h
  | some j=>
   rw [hj] at h
   have h:some ((σ[j]?).join)=some (some v):=h
   have h:=Option.some.inj h
   refine⟨i-n,j,by omega,hj,?_⟩
   cases hs:σ[j]? with
   | none=>rw [hs] at h;cases h
   | some o=>
    rw [hs] at h
    have h:o=some v:=h
    rw [h]
theorem wO {pins:List (Addr × Obj)} {σ:St} {H:Hp} {s:Shared} {h4:Heap} {tk:Nat} {fp:List Addr} (I:Inv X pins σ H s) (hk:scope.kind=.function) (T:iJ X NB n js scope cl)
  (hf:∀b ∈ fp,iN X pins H b) (ho:∀b ∈ fp,b<s.heap.objs.size) {m:Str→Option Value} (hn:h4.Ns s.heap.objs.size m) (keep:∀b o,s.heap.get? b=some o→h4.get? b=some o):
  Inv (X.blkF NB scope cl s.heap.objs.size s H fp (X.pn++pins)) [] (iF n js σ) H { s with heap:=h4,toks:=tk }:=by
 have stk:∀b,b≠X.env.locals→b ∉ X.fs→b ∉ frs X.stack:=fun b h1 h2 z=>(List.mem_cons.mp (I.stkSub b z)).elim h1 h2
 obtain⟨m0,hn0,hl0⟩:=I.loc
 refine⟨⟨I.ok.mod,hk,I.ok.glob,I.ok.blt,Nat.le_refl _,fun x y c q1 q2=>I.ok.inj x y c (T.sub x c q1) (T.sub y c q2),fun x q=>Option.isSome_iff_exists.mp (T.has x q),fun x c q=>(nomatch q),I.ok.hd,I.ok.frames,.inl rfl,fun b hb=>⟨Nat.ne_of_lt (ho b hb),fun x c q=>(hf b hb).2.2.2.2.1 x c (T.sub x c q)⟩,I.bs,Nat.le_trans I.ok.bsz I.sz,
  fun b o q hb=>?_,fun b hb=>stk b (hf b hb).2.1 (hf b hb).2.2.1,I.stack,I.stkFree⟩,rfl,I.bare,Un.kept keep,⟨m,hn,fun i x v q1 q2 q3=>?_⟩,fun x c q=>?_,I.hok.fresh (Nat.le_refl _),fun x c q=>I.freeC x c (T.sub x c q),fun p hp=>?_,I.hok.kept keep,?_⟩
 ·rcases (hf b hb).2.2.2.1 with z|z
  ·exact I.ok.noex b o q z
  ·exact absurd (Nat.lt_of_lt_of_le (Heap.lt_size q) (Nat.le_trans I.ok.bsz z)) (Nat.lt_irrefl _)
 ·obtain⟨k,j,rfl,hj,hs⟩:=rF q2
  have q1:NB[n+k]?=some x:=q1
  have hx:X.N[j]?=some x:=by rw [← T.nam k j hj];exact q1
  have hd:x ∈ NB.drop n:=List.mem_of_getElem? (i:=k) (by rw [List.getElem?_drop];exact q1)
  obtain⟨k1,k2,k3⟩:=T.ck x q3 hd
  obtain⟨c,hc⟩:=Option.isSome_iff_exists.mp k3
  obtain⟨u,ru,lu⟩:=hl0 j x v hx hs (k2.elim (fun z=>.inr (.inl z)) fun z=>.inr (.inr z))
  refine⟨u,ru,.inr ⟨k1,c,hc,?_⟩⟩
  rcases lu with ⟨z,_⟩|⟨_,c',hc',o,ho',hd'⟩
  ·rcases k2 with w|w <;> (rw [w] at z;cases z)
  ·have e:c'=c:=Option.some.inj (hc'.symm.trans (T.sub x c hc))
   subst e
   exact⟨o,keep _ _ ho',hd'⟩
 ·obtain⟨v,o,ho',hd'⟩:=I.cell x c (T.sub x c q)
  exact⟨v,o,keep _ _ ho',hd'⟩
 ·have hp':p ∈ X.pn++pins:=by simpa using hp
  obtain⟨q,n,ne,nf,d⟩:=I.pin p hp'
  exact⟨keep _ _ q,n,Nat.ne_of_lt (Heap.lt_size q),stk _ ne nf,d⟩
 ·exact nY T σ
theorem tH {pins:List (Addr × Obj)} {σ σ':St} {H H':Hp} {s s':Shared} {h2:Heap} {fp:List Addr} {pl:List (Addr × Obj)} (I:Inv X pins σ H s) (hf:∀b ∈ fp,iN X pins H b) (ho:∀b ∈ fp,b<s.heap.objs.size)
  (J:Inv (X.blkF NB scope cl s.heap.objs.size s H fp (X.pn++pins)) pl σ' H' s') (hs:Heap.SameBut s.heap.objs.size s'.heap h2):Inv X pins σ H' { s' with heap:=h2 }:=by
 have u:=J.base
 have low:∀b o,s.heap.get? b=some o→b≠s.heap.objs.size:=fun b o q=>Nat.ne_of_lt (Heap.lt_size q)
 refine I.call' (s':={ s' with heap:=h2 }) (ch:=fp) J.os ⟨fun b o q n hb he=>(hs.2 b (low b o q)).trans (u.keep b o q n hb he),fun b o q n hb he=>?_,u.free,fun b o q he=>?_,u.tups,u.frzs,u.tbls⟩ (fun b o q=>?_) J.bare fun b hb=>?_
 ·obtain⟨sl,z⟩:=u.slot b o q n hb he
  exact⟨sl,(hs.2 b (low b o q)).trans z⟩
 ·obtain⟨o',z⟩:=u.there b o q he
  exact⟨o',(hs.2 b (low b o q)).trans z⟩
 ·refine(J.hok b o q).stay (fun c w' hc r=>(hs.2 c ?_).trans r) (fun _ r=>r) fun _ _ r=>r
  have fr:H' s.heap.objs.size=none:=J.free
  rintro rfl
  rcases hc with rfl|hc
  ·rw [fr] at q;cases q
  ·rw [fr] at hc;cases hc
 ·obtain⟨f0,f1,f2,f3,f4,f5⟩:=hf b hb
  exact⟨f3,f1,f4,f5⟩
theorem lE {elt tg iter:Expr} {ifs:List Expr} {pos:Pos} {wi:TI} {g:TG} {tc:TT} {te:TE} (hk:scope.kind=.function) (hcell:∀x ∈ scope.names,x.2≠.cell)
  (hnames:∀x ∈ scope.names,x.2=.local→scope.names.lookup x.1=some .local) (hc:X.calm=true) (T:iJ X NB n js scope cl) (hi:PI X tg iter wi)
  (hg:∀C s H fp pn,PG (X.blkF NB scope cl C s H fp pn) tg g) (ht:∀C s H fp pn,PTs (X.blkF NB scope cl C s H fp pn) ifs tc) (he:∀C s H fp pn,PE (X.blkF NB scope cl C s H fp pn) elt te)
  (hs:∀x,foldedSetIterable iter X.env x=pure x:=by intro _;rfl):PE X (.ListComp elt [⟨tg,iter,ifs,0⟩] scope pos) (AbX n js wi g tc te):=by
 intro pins s σ H Q I h
 rw [eval_ListComp]
 refine wpAny_comprehension_free (use:=none) rfl hs T.clo hk hnames (thn (hi pins s σ H _ I h) fun v s1 h1=>thn h1 fun itv s2 h2=>?_)
 obtain⟨it,fp,tn,J,H2,rfl,I2,U,st2,f2,h2⟩:=h2
 have lt2:∀b ∈ fp,b<s2.heap.objs.size:=fun b hb=>by
  obtain⟨o,q,_⟩:=U.obj 0 _ st2 b hb
  exact Heap.lt_size q
 refine wpAny_newObj_type ?_
 have hz:H2 s2.heap.objs.size=none:=I2.hok.fresh (Nat.le_refl _)
 obtain⟨W,⟨m0,w0⟩,turn⟩:=h2 s2.heap.objs.size hz
 have I3:Inv X pins σ (upd H2 s2.heap.objs.size (.lst [])) { s2 with heap:=s2.heap.push { cls:=.type "list",dict:=none,data:=.seq ([]:List Value).toArray } }:=
  I2.laid (t':=s2.toks) (fun b o q=>Heap.get?_push_of_some _ q) (Nat.le_refl _) ⟨Nat.zero_le _,[],0,.nil,Heap.get?_push_size _ rfl⟩
 generalize hs3:({ s2 with heap:=s2.heap.push { cls:=.type "list",dict:=none,data:=.seq ([]:List Value).toArray } }:Shared)=s3 at I3 ⊢
 have ups3:∀b o,s2.heap.get? b=some o→s3.heap.get? b=some o:=fun b o q=>by rw [← hs3];exact Heap.get?_push_of_some _ q
 have f3:∀b ∈ fp,iN X pins (upd H2 s2.heap.objs.size (.lst [])) b:=fun b hb=>⟨by rw [aC (Nat.ne_of_lt (lt2 b hb))];exact(f2 b hb).1,(f2 b hb).2⟩
 have lt3:∀b ∈ fp,b<s3.heap.objs.size:=fun b hb=>by
  obtain⟨o,q,_⟩:=U.obj 0 _ st2 b hb
  exact Heap.lt_size (ups3 b o q)
 refine wpAny_newFunctionEnv hcell (by intro y hy;simp at hy) (fun h4 hn4 hs4=>?_) hk
 have keep4:∀b o,s3.heap.get? b=some o→h4.get? b=some o:=fun b o q=>(hs4.2 b (Nat.ne_of_lt (Heap.lt_size q))).trans (Heap.get?_push_of_some _ q)
 have I4:=wO (tk:=s3.toks+([]:List (Str × Value)).length) I3 hk T f3 lt3 hn4 keep4
 have st4:tn 0 h4:=U.keep _ _ _ st2 fun b hb o q=>keep4 b o (ups3 b o q)
 have fpY:∀{H':Hp},(∀b ∈ fp,H' b=none)→∀b ∈ fp,iN (X.blkF NB scope cl s3.heap.objs.size s3 (upd H2 s2.heap.objs.size (.lst [])) fp (X.pn++pins)) [] H' b:=fun hn b hb=>by
  obtain⟨g0,g1,g2,g3,g4,g5⟩:=f3 b hb
  exact⟨hn b hb,Nat.ne_of_lt (lt3 b hb),fun z=>(List.mem_cons.mp (I3.stkSub b z)).elim g1 g2,.inl hb,fun x c q=>g4 x c (T.sub x c q),fun p hp=>g5 p (by simpa using hp)⟩
 have loop:∀s5:Shared,s5={ s3 with heap:=h4,toks:=s3.toks+([]:List (Str × Value)).length }→codeAny (model X.prog X.w) X.A (.compLoop (.ListComp elt [⟨tg,iter,ifs,0⟩] scope pos) 0 (.ref it) (.ref s2.heap.objs.size) (compEnvC scope cl s3.heap.objs.size X.env))
   (compPost (model X.prog X.w) X.A X.xe none (EP X pins σ Q) (.ref s2.heap.objs.size) s3.heap.objs.size) s5:=by
  rintro s5 rfl
  refine codeAny_loop rfl (fun k s'=>∃i ys H',Inv (X.blkF NB scope cl s3.heap.objs.size s3 (upd H2 s2.heap.objs.size (.lst [])) fp (X.pn++pins)) [] (iF n js σ) H' s'∧tn i s'.heap∧(∀b ∈ fp,H' b=none)∧W i k ys H')
   (fun k s6 hI=>?_) m0 ⟨0,[],_,I4,st4,fun b hb=>(f3 b hb).1,w0⟩
  obtain⟨i,ys,H6,I6,st6,fr6,w6⟩:=hI
  show wpAny _ _ ((compTurn (.ListComp elt [⟨tg,iter,ifs,0⟩] scope pos) 0 (.ref it) (.ref s2.heap.objs.size) (compEnvC scope cl s3.heap.objs.size X.env)).onRaise (fun x=>do noteFrame x (compEnvC scope cl s3.heap.objs.size X.env);theTreesLotGoes x)) _ _ s6
  refine wpAny_noted ?_
  rw [compTurn_list]
  refine wpAny_bind (wpAny_standAt (wpAny_bind ?_))
  obtain⟨hacc,alt⟩:=turn i k ys H6 w6
  rcases alt with ⟨stop,q⟩|⟨go,step⟩
  ·refine thn (U.done (X.blkF NB scope cl s3.heap.objs.size s3 (upd H2 s2.heap.objs.size (.lst [])) fp (X.pn++pins)) rfl rfl rfl hc i [] s6 _ H6 _ I6 (fpY fr6) st6 stop) fun r s7 ⟨hr,I7⟩=>?_
   subst hr
   obtain⟨m,hm,_⟩:=I7.loc
   exact wpAny_pure ⟨m,hm,fun h' hsb=>⟨.ref s2.heap.objs.size,H6,tH I3 f3 lt3 I7 hsb,rfl,q⟩⟩
  ·refine thn (U.item (X.blkF NB scope cl s3.heap.objs.size s3 (upd H2 s2.heap.objs.size (.lst [])) fp (X.pn++pins)) rfl rfl rfl hc i [] s6 _ H6 _ I6 (fpY fr6) st6 go) fun r s7 ⟨u,hr,h7⟩=>?_
   subst hr
   refine wpAny_bind (thn h7 fun _ s8 ⟨x,H8,I8,r8,y8,st8,fr8⟩=>?_)
   have I8':=I8.pinned (fpY fr8) (U.obj _ _ st8)
   have gp:∀{σ9:St} {H9:Hp} {s9:Shared},Inv (X.blkF NB scope cl s3.heap.objs.size s3 (upd H2 s2.heap.objs.size (.lst [])) fp (X.pn++pins)) ([]++eQ fp s8.heap) σ9 H9 s9→tn (i+1) s9.heap∧∀b ∈ fp,H9 b=none:=fun I9=>
    ⟨U.keep _ _ _ st8 fun b hb o e=>(I9.pin (b,o) (List.mem_append_right _ (List.mem_append_right _ (dZ hb e)))).1,fun b hb=>by
     obtain⟨o,e,d⟩:=U.obj _ _ st8 b hb
     exact(I9.pin (b,o) (List.mem_append_right _ (List.mem_append_right _ (dZ hb e)))).2.1⟩
   have wk:∀{σ9:St} {H9:Hp} {s9:Shared},σ9.drop n=(iF n js σ).drop n→Inv (X.blkF NB scope cl s3.heap.objs.size s3 (upd H2 s2.heap.objs.size (.lst [])) fp (X.pn++pins)) ([]++eQ fp s8.heap) σ9 H9 s9→Inv (X.blkF NB scope cl s3.heap.objs.size s3 (upd H2 s2.heap.objs.size (.lst [])) fp (X.pn++pins)) [] (iF n js σ) H9 s9:=fun {σ9 H9 s9} hd I9=>
    I9.unpinned.weak (by rw [nY T,I9.len]) fun k v z=>by
     obtain⟨k',j,rfl,_,_⟩:=rF z
     have e:=congrArg (fun l=>l[k']?) hd
     simp only [List.getElem?_drop] at e
     rw [e]
     exact z
   refine wpAny_bind (wpAny_mono (hg _ _ _ _ _ _ s8 _ H8 x u _ I8' r8 (step x H8 y8)) (fun _ s9 hq=>?_) fun _ _ z=>z.elim)
   obtain⟨σ9,H9,I9,hd9,q9⟩:=hq
   refine wpAny_bind (wpAny_mono (ht _ _ _ _ _ _ s9 σ9 H9 _ I9 q9) (fun ok s10 hq=>?_) fun _ _ z=>z.elim)
   obtain⟨H10,I10,q10⟩:=hq
   cases ok with
   | false=>
    rw [if_neg (by simp)] at q10
    obtain⟨m',hm',w10⟩:=q10
    exact wpAny_pure ⟨rfl,m',hm',i+1,ys,H10,wk hd9 I10,(gp I10).1,(gp I10).2,w10⟩
   | true=>
    rw [if_pos rfl] at q10
    refine wpAny_bind (wpAny_bind (wpAny_mono (he _ _ _ _ _ _ s10 σ9 H10 _ I10 q10) (fun y s11 hq=>?_) fun _ _ z=>z.elim))
    obtain⟨yv,H11,I11,ry,ha11,hl11,m',hm',w11⟩:=hq
    have mt:=dN (X:=X.blkF NB scope cl s3.heap.objs.size s3 (upd H2 s2.heap.objs.size (.lst [])) fp (X.pn++pins)) ([]++eQ fp s8.heap) s11 σ9 H11 (.ref s2.heap.objs.size) [yv] (.ref s2.heap.objs.size) [y] (fun _ H'=>W (i+1) m' (ys++[yv]) H') I11 rfl (.cons ry .nil) ⟨_,ys,yv,rfl,rfl,ha11,hl11,w11⟩
    refine wpAny_bind (wpAny_mono mt (fun _ s12 hq=>?_) fun _ _ z=>z.elim)
    obtain⟨v12,H12,I12,_,w12⟩:=hq
    exact wpAny_pure (wpAny_pure ⟨rfl,m',hm',i+1,_,H12,wk hd9 I12,(gp I12).1,(gp I12).2,w12⟩)
 exact codeAny_compStart_list (loop _ rfl) (U.self _ 0 _ _ _ st4 (loop _ rfl))
def iSeq (K:PySem.W.Frag) (tl:TE):TI:=fun σ H R=>tl σ H fun x H1=>∃a,x=.ref a∧(((∃xs,SqL K H1 a xs)∧R (Itl K a) H1)∨((∃xs,SqT K H1 a xs)∧R (Itt K a) H1))
theorem pi_seq {tg l:Expr} {tl:TE} (hl:PE X l tl):PI X tg l (iSeq X.K tl):=by
 intro pins s σ H R I h
 refine thn (hl pins s σ H _ I h) fun v s1 ⟨x,H1,I1,r1,q1⟩=>?_
 obtain⟨a,e,q1⟩:=q1
 subst e
 cases r1
 rcases q1 with ⟨⟨xs,hq⟩,q⟩|⟨⟨xs,hq⟩,q⟩
 ·obtain⟨its,rv,p,hz⟩:=I1.list hq
  refine wpAny_pyIter_list p.isList ?_
  refine⟨s1.heap.objs.size,[s1.heap.objs.size],_,_,H1,rfl,I1.kept (t':=s1.toks) fun b o e=>Heap.get?_push_of_some _ e,rX a _,⟨_,Heap.get?_push_size _ rfl,rfl,rfl⟩,fun b hb=>?_,q⟩
  have e:b=s1.heap.objs.size:=by simpa using hb
  subst e
  exact I1.fpOk (Nat.le_refl _) (I1.hok.fresh (Nat.le_refl _))
 ·obtain⟨its,rv,p,hz⟩:=I1.tuple hq
  refine wpAny_pyIter_tuple (show s1.heap.IsTuple a its.toArray from p) ?_
  refine⟨s1.heap.objs.size,[s1.heap.objs.size],_,_,H1,rfl,I1.kept (t':=s1.toks) fun b o e=>Heap.get?_push_of_some _ e,pK a _,⟨_,Heap.get?_push_size _ rfl,rfl,rfl⟩,fun b hb=>?_,q⟩
  have e:b=s1.heap.objs.size:=by simpa using hb
  subst e
  exact I1.fpOk (Nat.le_refl _) (I1.hok.fresh (Nat.le_refl _))
end
end L2
namespace L2
open PySem PySem.Spec PyProof.Rows PySem.W
def wC {α:Type} (lt:Nat→Nat→Bool):KasT α→α
 | .ret a=>a
 | .ask i j k=>wC lt (k (lt i j))
def kOk {α:Type} (n:Nat) (P:α→Prop):KasT α→Prop
 | .ret a=>P a
 | .ask i j k=>i<n∧j<n∧∀b,kOk n P (k b)
theorem iD {α β:Type} {n:Nat} {P:α→Prop} {R:β→Prop} {f:α→KasT β}:∀{t:KasT α},kOk n P t→(∀a,P a→kOk n R (f a))→kOk n R (t.bind f)
 | .ret a,h,hf=>hf a h
 | .ask i j k,⟨h1,h2,h3⟩,hf=>⟨h1,h2,fun b=>iD (h3 b) hf⟩
theorem zF {α:Type} {n:Nat} {P:α→Prop} {lt:Nat→Nat→Bool}:∀{t:KasT α},kOk n P t→P (wC lt t)
 | .ret a,h=>h
 | .ask i j k,⟨h1,h2,h3⟩=>zF (t:=k (lt i j)) (h3 (lt i j))
theorem nO {α:Type} {n:Nat} {P:α→Prop} {cmp:Nat→Nat→(Bool→Shared→Prop)→Shared→Prop} {lt:Nat→Nat→Bool} {s:Shared} (hc:∀i j C,i<n→j<n→C (lt i j) s→cmp i j C s):
  ∀{t:KasT α} {C:α→Shared→Prop},kOk n P t→C (wC lt t) s→KasT.kasWp cmp t C s
 | .ret a,C,h,q=>q
 | .ask i j k,C,⟨h1,h2,h3⟩,q=>hc i j _ h1 h2 (nO hc (h3 _) q)
def Low (n:Nat) (p:Array Nat):Prop:=∀x ∈ p,x<n
theorem Low.get {n:Nat} {p:Array Nat} (h:Low n p) (h0:0<n) (i:Nat):p.getD i 0<n:=by
 unfold Array.getD
 split
 ·exact h _ (Array.getElem_mem _)
 ·exact h0
theorem Low.swap {n:Nat} {p:Array Nat} (h:Low n p) (i j:Nat):Low n (p.swapIfInBounds i j):=by
 unfold Array.swapIfInBounds
 split
 ·split
  ·exact fun x hx=>h x ((Array.swap_perm _ _).mem_iff.mp hx)
  ·exact h
 ·exact h
theorem Low.fold {n:Nat} (f g:Nat→Nat):∀(l:List Nat) {p:Array Nat},Low n p→Low n (l.foldl (fun a k=>a.swapIfInBounds (f k) (g k)) p)
 | [],_,h=>h
 | k::l,_,h=>Low.fold f g l (h.swap _ _)
theorem Low.rev {n:Nat} {p:Array Nat} (h:Low n p) (i j:Nat):Low n (kas_rev p i j):=Low.fold (fun k=>i+k) (fun k=>j-1-k) _ h
theorem Low.bub {n:Nat} {p:Array Nat} (h:Low n p) (i j:Nat):Low n (bubble p i j):=Low.fold (fun k=>i-k) (fun k=>i-k-1) _ h
theorem xR {n:Nat} (h0:0<n) {p:Array Nat} (h:Low n p):∀(f x:Nat),kOk n (fun _=>True) (kas_asc p f x)
 | 0,x=>trivial
 | f+1,x=>by
  rw [kas_asc.eq_2]
  refine⟨h.get h0 _,h.get h0 _,fun b=>?_⟩
  cases b
  ·exact xR h0 h f (x+1)
  ·exact trivial
theorem pA {n:Nat} (h0:0<n):∀(f:Nat) {p:Array Nat} (a b:Nat),Low n p→kOk n (fun r=>Low n r.1) (kas_desc f p a b)
 | 0,p,a,b,h=>by
  rw [kas_desc.eq_1]
  exact h
 | f+1,p,a,b,h=>by
  rw [kas_desc.eq_2]
  refine⟨h.get h0 _,h.get h0 _,fun c=>?_⟩
  cases c
  ·refine⟨h.get h0 _,h.get h0 _,fun d=>?_⟩
   cases d
   ·exact pA h0 f _ _ h
   ·exact h
  ·show kOk n _ (if b > 0 then kas_desc f (kas_rev p (a-(b+1)) a) (a+1) 0 else kas_desc f p (a+1) 0)
   split
   ·exact pA h0 f _ _ (h.rev _ _)
   ·exact pA h0 f _ _ h
theorem vU {n:Nat} (h0:0<n) {p:Array Nat} (h:Low n p) (a b:Nat):kOk n (fun r=>Low n r.2) (kas_tail3 a b p):=by
 unfold kas_tail3
 exact iD (xR h0 (h.rev _ _) _ _) fun m _=>h.rev _ _
theorem oG {n:Nat} (h0:0<n) {p:Array Nat} (h:Low n p) (a b:Nat):kOk n (fun r=>Low n r.2) (kas_descPart a b p):=by
 unfold kas_descPart
 refine iD (pA h0 _ _ _ h) fun r hr=>?_
 split
 ·exact vU h0 (hr.rev _ _) _ _
 ·exact vU h0 hr _ _
theorem AdJ {n:Nat} (h0:0<n) {p:Array Nat} (h:Low n p) (a:Nat):kOk n (fun r=>Low n r.2) (kas_count a p):=by
 unfold kas_count
 refine iD (xR h0 h _ _) fun m _=>?_
 split
 ·exact h
 ·split
  ·refine⟨h.get h0 _,h.get h0 _,fun c=>?_⟩
   cases c
   ·exact oG h0 (h.rev _ _) _ _
   ·exact h
  ·exact oG h0 h _ _
theorem qL {n:Nat} (h0:0<n) {p:Array Nat} (h:Low n p) (k:Nat):∀(f l r:Nat),kOk n (fun _=>True) (kas_place p k f l r)
 | 0,l,r=>by
  rw [kas_place.eq_def]
  exact trivial
 | f+1,l,r=>by
  rw [kas_place.eq_def]
  show kOk n _ (if l ≥ r then _ else _)
  split
  ·exact trivial
  ·refine⟨h.get h0 _,h.get h0 _,fun c=>?_⟩
   cases c
   ·exact qL h0 h k f _ _
   ·exact qL h0 h k f _ _
theorem AdL {n:Nat} (h0:0<n):∀(f:Nat) {p:Array Nat} (k:Nat),Low n p→kOk n (Low n) (kas_bin f p k)
 | 0,p,k,h=>by
  rw [kas_bin.eq_1]
  exact h
 | f+1,p,k,h=>by
  rw [kas_bin.eq_2]
  exact iD (qL h0 h _ _ _ _) fun l _=>AdL h0 f _ (h.bub _ _)
theorem uM {n:Nat} (h0:0<n):kOk n (Low n) (kas_sort n):=by
 unfold kas_sort
 have h:Low n (List.range n).toArray:=fun x hx=>List.mem_range.mp (by simpa using hx)
 refine iD (AdJ h0 h _) fun r hr=>?_
 split
 ·exact AdL h0 _ _ hr
 ·exact hr
open Classical in
theorem wp_meet {α:Type} {M:Model} {m:Sem α} {s:Shared} {Q1 Q2:α→Prop} (h1:∀A,wpAny M A m (fun a _=>Q1 a) (fun _ _=>False) s) (h2:∀A,wpAny M A m (fun a _=>Q2 a) (fun _ _=>False) s):∃a,Q1 a∧Q2 a:=by
 refine Classical.byContradiction fun no=>?_
 let t:Sem PySem.Fin:=m >>= fun a=>pure (PySem.Fin.done (Flow.ret (Value.bool (decide (Q1 a)))))
 let c:Code:=.builtin "boot" {}
 have go:∀(b:Bool) (Q:α→Prop),(∀A,wpAny M A m (fun a _=>Q a) (fun _ _=>False) s)→(∀a,Q a→decide (Q1 a)=b)→∃r s',Reach M [] s t c default [] s' (End.ret r)∧r=Except.ok (Flow.ret (Value.bool b)):=fun b Q h e=>by
  refine(wp_iff_reach (M:=M) (base:=[]) (c:=c) t (fun r _=>r=Except.ok (Flow.ret (Value.bool b))) default s).mp ?_
  have hA:wpAny M { handled:=(Ctx.of c []).handled,depth:=frameCount (Ctx.of c []).below+(Ctx.of c []).code.weight,frames:=none,guards:=none,units:=(Ctx.of c []).units } t (fun fin _=>fin=PySem.Fin.done (Flow.ret (Value.bool b))) (fun _ _=>False) s:=by
   refine wpAny_bind (thn (h _) fun a s' ha=>wpAny_pure ?_)
   rw [e a ha]
  have:=hA (Ctx.of c []) default ⟨rfl,Nat.le_refl _,fun l z=>(nomatch z),fun l z=>(nomatch z),Nat.le_refl _⟩
  refine Sem.wp_mono M (Ctx.of c []) t ?_ ?_ default s this
  ·intro fin p s' e
   subst e
   rfl
  ·intro _ _ _ z
   exact z.elim
 obtain⟨r1,s1,e1,f1⟩:=go true Q1 h1 fun a h=>decide_eq_true h
 obtain⟨r2,s2,e2,f2⟩:=go false Q2 h2 fun a h=>decide_eq_false fun z=>no ⟨a,z,h⟩
 obtain⟨_,e⟩:=e1.det e2
 have e:r1=r2:=by
  injection e
 rw [f1,f2] at e
 cases e
theorem rH {α β:Type} (f:α→β) (p:Array α):(p.map f).toList=p.toList.map f:=by simp
theorem AaD {prog:Program} {w:World} {s:Shared} (ks:List Int) (h2:2≤ks.length) (h64:ks.length<64):
  (wC (fun i j=>decide (ks.getD i 0<ks.getD j 0)) (kas_sort ks.length)).toList.Perm (List.range ks.length) ∧
   ∀i j,i≤j→j<ks.length→ks.getD ((wC (fun i j=>decide (ks.getD i 0<ks.getD j 0)) (kas_sort ks.length)).getD i 0) 0≤ks.getD ((wC (fun i j=>decide (ks.getD i 0<ks.getD j 0)) (kas_sort ks.length)).getD j 0) 0:=by
 have h0:0<ks.length:=by omega
 have low:Low ks.length (wC (fun i j=>decide (ks.getD i 0<ks.getD j 0)) (kas_sort ks.length)):=zF (uM h0)
 generalize hp:wC (fun i j=>decide (ks.getD i 0<ks.getD j 0)) (kas_sort ks.length)=p at low ⊢
 let itL:List Keyed:=(List.range ks.length).map fun i=>(Value.int (ks.getD i 0) 0,Value.int (i:Nat) 0)
 let it:Array Keyed:=itL.toArray
 have isz:it.size=ks.length:=by simp [it,itL]
 have item:∀i,i<ks.length→kas_item it i=(Value.int (ks.getD i 0) 0,Value.int (i:Nat) 0):=fun i hi=>by
  show it.getD i (Value.none,Value.none)=_
  simp [it,itL,Array.getD,hi]
 have st0:Array.map (kas_item it) (List.range ks.length).toArray=it:=by
  apply Array.ext
  ·simp [isz]
  ·intro i h1 h2
   have hi:i<ks.length:=by simpa using h1
   simp only [Array.getElem_map,List.getElem_toArray,List.getElem_range]
   rw [item i hi]
   simp [it,itL]
 obtain⟨r,⟨q1,q2⟩,q3,q4⟩:=wp_meet (M:=model prog w) (m:=sortRuns'.run (kas_st oneType' it (List.range ks.length).toArray)) (s:=s)
  (Q1:=fun r=>(arrOf r.2).Perm it∧SortedTo (arrOf r.2) it.size) (Q2:=fun r=>arrOf r.2=Array.map (kas_item it) p∧p.size=ks.length)
  (fun A=>by
   have:=wpS_sortRuns (prog:=prog) (w:=w) (A:=A) (E:=fun _ _=>False) (s:=s) (a₀:=it) (st:=kas_st oneType' it (List.range ks.length).toArray) (Q:=fun _ st'=>(arrOf st').Perm it∧SortedTo (arrOf st') it.size)
    (fun x hx=>by
     have hx:x ∈ itL:=by simpa [it] using hx
     obtain⟨i,_,rfl⟩:=List.mem_map.mp hx
     exact⟨_,_,rfl⟩) ⟨by show (Array.map (kas_item it) (List.range ks.length).toArray).Perm it;rw [st0],rfl,rfl,rfl⟩ (by rw [isz];exact h2) (by rw [isz];exact h64) fun st' a1 a2 a3=>⟨a1,a3⟩
   exact thn this fun r s' h=>h.2)
  (fun A=>by
   show kasC (model prog w) A (fun _ _=>False) sortRuns' (fun _ st' _=>arrOf st'=Array.map (kas_item it) p∧p.size=ks.length) (kas_st oneType' it (List.range ks.length).toArray) s
   refine kas_runs (G:=fun p' _=>p'=p) h2 h64 (fun p' st' s' e1 e2 e3 e4=>by subst e4;exact⟨e2,e1⟩) ?_
   refine nO (lt:=fun i j=>decide (ks.getD i 0<ks.getD j 0)) (fun i j C hi hj q=>?_) (uM h0) hp
   unfold kas_cmp
   rw [item i hi,item j hj]
   exact kat_lt_int q)
 rw [q3] at q1 q2
 have plow:∀x ∈ p.toList,x<ks.length:=fun x hx=>low x (by simpa using hx)
 constructor
 ·have q1':(p.toList.map (kas_item it)).Perm itL:=by
   have:=Array.perm_iff_toList_perm.mp q1
   rwa [rH] at this
  have g:=q1'.map fun x:Keyed=>match x.2 with | .int i _=>i.toNat|_=>0
  rw [List.map_map] at g
  have e1:p.toList.map ((fun x:Keyed=>match x.2 with | .int i _=>i.toNat|_=>0) ∘ kas_item it)=p.toList:=by
   refine(List.map_congr_left fun x hx=>?_).trans (List.map_id _)
   show (match (kas_item it x).2 with | .int i _=>i.toNat|_=>0)=x
   rw [item x (plow x hx)]
   rfl
  have e2:itL.map (fun x:Keyed=>match x.2 with | .int i _=>i.toNat|_=>0)=List.range ks.length:=by
   show (List.map _ (List.map _ _))=_
   rw [List.map_map]
   refine(List.map_congr_left fun x hx=>?_).trans (List.map_id _)
   rfl
  rw [e1,e2] at g
  exact g
 ·intro i j hij hj
  have k:=q2 i j hij (by rw [isz];exact hj)
  have at_:∀i,i<ks.length→PyProof.Rows.K (Array.map (kas_item it) p) i=ks.getD (p.getD i 0) 0:=fun i hi=>by
   have hs:i<p.size:=by rw [q4];exact hi
   unfold PyProof.Rows.K
   have e:(Array.map (kas_item it) p)[i]?=some (kas_item it p[i]):=by
    rw [Array.getElem?_map,Array.getElem?_eq_getElem hs]
    rfl
   rw [e,item _ (low _ (Array.getElem_mem hs))]
   have:p.getD i 0=p[i]:=by simp [Array.getD,hs]
   rw [this]
   rfl
  rw [at_ i (by omega),at_ j hj] at k
  exact k
end L2
namespace L2
open PySem PySem.Spec PyProof.Rows PySem.W
end L2
namespace L2
open PySem PySem.Spec PyProof.Rows PySem.W
section
variable {prog:Program} {w:World} {A:Around} {E:Value→Shared→Prop} {s:Shared}
theorem sortT {a:Addr} {vs:List Value} {n:Nat} {P:PySem.Fin→Shared→Prop} {G:Array Nat→Prop} (ho:s.heap.get? a=some (seqObj "list" vs.toArray n)) (h64:vs.length<64)
  (hs:2≤vs.length→∀s1:Shared,(∀b o,b≠a→s.heap.get? b=some o→s1.heap.get? b=some o)→wpAny (model prog w) A (keyKind' vs.toArray) (fun κ s2=>s2=s1∧KasT.kasWp (kas_cmp prog w A κ (pairsOf vs)) (kas_sort vs.length) (fun p s3=>s3=s1∧G p) s1) E s1)
  (hP:∀out:Array Value,(vs.length<2∧out=vs.toArray)∨(∃p:Array Nat,G p∧p.size=vs.length∧out=p.map fun i=>vs.getD i .none)→P (PySem.Fin.done (Flow.ret .none)) { s with heap:=sortedHeap s.heap a vs out }):
  wpAny (model prog w) A (Builtin.«list.sort» { pos:=[Value.ref a] }) P E s:=by
 have sl:sizeLine=16777216:=sizeLine_eq
 have ha:=Heap.lt_size ho
 rw [list_sort_plain]
 refine wpAny_bind (listItems_at ho rfl (wpAny_bind (listUpdate_at ho rfl ?_ (by rw [List.size_toArray];omega) (by show 0≤_;omega))))
 obtain⟨e1,ho1⟩:∃e1,(s.heap.update a (Obj.mapSeq fun _=>#[])).get? a=some (seqObj "list" #[] e1):=⟨_,get?_update_seq ho fun _=>#[]⟩
 refine wpAny_bind (seqEpoch_at ho1 rfl (wpAny_bind (wpAny_newTuple (wpAny_bind (wpAny_newList (wpAny_holding ?_) (by show 0≤_;omega))) (by show vs.toArray.toList.length≤_;simp;omega))))
 have ho6:(((s.heap.update a (Obj.mapSeq fun _=>#[])).push (seqObj "tuple" vs.toArray 0)).push (seqObj "list" #[] 0)).get? a=some (seqObj "list" #[] e1):=by
  rw [Heap.get?_push_ne _ _ _ (by rw [size_push',Heap.size_update];exact Nat.ne_of_lt (Nat.lt_succ_of_lt ha)),Heap.get?_push_ne _ _ _ (by rw [Heap.size_update];exact Nat.ne_of_lt ha)]
  exact ho1
 have old:∀b o,b≠a→s.heap.get? b=some o→(((s.heap.update a (Obj.mapSeq fun _=>#[])).push (seqObj "tuple" vs.toArray 0)).push (seqObj "list" #[] 0)).get? b=some o:=fun b o hb e=>by
  have hl:=Heap.lt_size e
  rw [Heap.get?_push_ne _ _ _ (by rw [size_push',Heap.size_update];exact Nat.ne_of_lt (Nat.lt_succ_of_lt hl)),Heap.get?_push_ne _ _ _ (by rw [Heap.size_update];exact Nat.ne_of_lt hl),Heap.get?_update_ne _ _ _ _ hb]
  exact e
 have sz:vs.toArray.size=vs.length:=by simp
 show wpAny _ _ (if vs.toArray.size<2 then _ else _) _ _ _
 by_cases h2:vs.toArray.size<2
 ·rw [if_pos h2]
  refine wpAny_bind (wpAny_pure ?_)
  show wpAny _ _ ((if vs.toArray.size<2 then pure () else sortRuns').run (SortSt.mk' general' (vs.toArray.zip vs.toArray) #[] 7 none) >>= _) _ _ _
  rw [if_pos h2]
  refine wpAny_bind (wpAny_pure ?_)
  have e:Array.map (fun x=>x.2) (arrOf (SortSt.mk' general' (vs.toArray.zip vs.toArray) #[] 7 none))=vs.toArray:=by
   show Array.map (fun x=>x.2) (vs.toArray.zip vs.toArray)=_
   apply Array.ext
   ·simp
   ·intro i a b
    simp
  refine wpAny_bind (seqEpoch_at ho6 rfl (wpAny_bind (listUpdate_at ho6 rfl ?_ (by show 0≤_;omega) (by show (Array.map _ _).size≤_;rw [e];omega))))
  show wpAny _ _ (if (e1 != e1)=true then _ else _) _ _ _
  rw [if_neg (by simp)]
  refine wpAny_pure ?_
  rw [e]
  exact hP _ (.inl ⟨by omega,rfl⟩)
 ·rw [if_neg h2]
  refine wpAny_bind (thn (hs (by omega) _ old) fun κ s2 ⟨es,hk⟩=>?_)
  subst es
  show wpAny _ _ ((if vs.toArray.size<2 then pure () else sortRuns').run (SortSt.mk' κ (vs.toArray.zip vs.toArray) #[] 7 none) >>= _) _ _ _
  rw [if_neg h2]
  have st0:Array.map (kas_item (pairsOf vs)) (List.range vs.length).toArray=vs.toArray.zip vs.toArray:=by
   apply Array.ext
   ·simp
   ·intro i a b
    have hi:i<vs.length:=by simpa using a
    simp only [Array.getElem_map,List.getElem_toArray,List.getElem_range]
    show (pairsOf vs).getD i (.none,.none)=_
    have:i<(pairsOf vs).size:=by rw [pairsOf_size];exact hi
    simp [Array.getD,this,pairsOf,hi]
  rw [← st0]
  refine wpAny_bind ?_
  have go:kasC (model prog w) A E sortRuns' (fun _ st' s'=>s'=_∧failedOf st'=none∧∃p:Array Nat,G p∧p.size=vs.length∧arrOf st'=Array.map (kas_item (pairsOf vs)) p) (kas_st κ (pairsOf vs) (List.range vs.length).toArray) _:=
   kas_runs (by omega) h64 (fun p' st' s' z1 z2 z3 z4=>⟨z4.1,z3,p',z4.2,z1,z2⟩) hk
  refine thn go fun r s' ⟨es,hf,p,hg,hps,ha'⟩=>?_
  obtain⟨u,st'⟩:=r
  subst es
  have e:Array.map (fun x=>x.2) (arrOf st')=p.map fun i=>vs.getD i .none:=by
   have ha':arrOf st'=Array.map (kas_item (pairsOf vs)) p:=ha'
   rw [ha',Array.map_map]
   congr 1
   funext i
   show (kas_item (vs.toArray.zip vs.toArray) i).2=_
   rw [kat_item rfl]
  refine wpAny_bind (seqEpoch_at ho6 rfl (wpAny_bind (listUpdate_at ho6 rfl ?_ (by show 0≤_;omega) (by show (Array.map _ _).size≤_;rw [e,Array.size_map];omega))))
  have hf:failedOf st'=none:=hf
  rw [hf]
  show wpAny _ _ (if (e1 != e1)=true then _ else _) _ _ _
  rw [if_neg (by simp)]
  refine wpAny_pure ?_
  rw [e]
  exact hP _ (.inr ⟨p,hg,hps,rfl⟩)
end
end L2
namespace L2
open PySem PySem.Spec PyProof.Rows PySem.W
section
variable {prog:Program} {w:World} {A:Around} {E:Value→Shared→Prop} {s:Shared}
end
theorem gR {α β γ:Type} {F:β→γ→Prop} (f:α→β) (g:α→γ):∀{l:List α},(∀i ∈ l,F (f i) (g i))→Paired F (l.map f) (l.map g)
 | [],_=>.nil
 | a::l,h=>.cons (h a (List.mem_cons_self ..)) (gR f g fun i hi=>h i (List.mem_cons_of_mem _ hi))
section
variable {X:Cx}
end
end L2
namespace L2
open PySem PySem.Spec PyProof.Rows PySem.W
theorem sZ:∀{ns:List Int} {us:List Value},cB (ns.map V.int) us→∃xs:List (Int × Tok),us=xs.map (fun p=>Value.int p.1 p.2)∧xs.map (fun p=>p.1)=ns
 | [],_,.nil=>⟨[],rfl,rfl⟩
 | n::ns,_,.cons ⟨t,e⟩ r=>by
  obtain⟨xs,e1,e2⟩:=sZ r
  refine⟨(n,t)::xs,?_,?_⟩
  ·rw [List.map_cons,← e1,e]
  ·rw [List.map_cons,e2]
theorem yT (xs:List (Int × Tok)):∀k,k≤xs.length→preSum (numAt xs.toArray) k=((xs.take k).map (fun p=>p.1)).sum
 | 0,_=>rfl
 | k+1,h=>by
  have i:=yT xs k (by omega)
  show preSum (numAt xs.toArray) k+numAt xs.toArray k=_
  rw [i,List.take_add_one,List.getElem?_eq_getElem (by omega),List.map_append,List.sum_append]
  congr 1
  have:numAt xs.toArray k=(xs[k]'(by omega)).1:=by
   unfold numAt
   simp [show k<xs.length by omega]
  rw [this]
  simp
section
variable {X:Cx}
theorem wL (hc:X.calm=true):gP X (.builtin "sum") (fun xs H Q=>∃(a:Addr) (ns:List Int),xs=[.ref a]∧SqL X.K H a (ns.map V.int)∧Q (.int ns.sum) H):=by
 intro pins s σ H xs us Q I r h
 obtain⟨a,ns,rfl,hq,q⟩:=h
 obtain⟨u,rfl,rx⟩:=jV r
 cases rx
 obtain⟨its,r',pl,hz⟩:=I.list hq
 obtain⟨xs,e1,e2⟩:=sZ r'
 have hl:s.heap.IsList a (intItems xs.toArray):=by
  have e:intItems xs.toArray=its.toArray:=by
   rw [e1]
   unfold intItems
   simp
  rw [e]
  exact pl.isList
 refine sum_intListG (I.ok.hd hc) hl fun h' tk t' kp=>⟨.int _,H,I.kept kp,⟨_,rfl⟩,?_⟩
 have e:preSum (numAt xs.toArray) xs.toArray.size=ns.sum:=by
  rw [List.size_toArray,yT xs xs.length (Nat.le_refl _),List.take_length,e2]
 rw [e]
 exact q
end
end L2
namespace L2
open PySem PySem.Spec PyProof.Rows PySem.W
section
variable {prog:Program} {w:World} {A:Around} {E:Value→Shared→Prop}
end
section
variable {X:Cx} {pos:Pos}
end
end L2
namespace L2
open PySem PySem.Spec PyProof.Rows PySem.W
section
variable {X:Cx}
theorem Inv.byNews {pins:List (Addr × Obj)} {σ:St} {H:Hp} {s:Shared} {h':Heap} {tk:Nat} {m:Str→Option Value} (I:Inv X pins σ H s) (hn:s.heap.Ns X.env.locals m) (F:Fr X.base X.env.locals h' m) (N:News X.base X.env.locals h' (pF X.base s.heap X.env.locals)):
  Inv X pins σ H { s with heap:=h',toks:=tk }:=by
 have keep:∀b o,b≠X.env.locals→s.heap.get? b=some o→h'.get? b=some o:=fun b o hb e=>by
  cases z:X.base.get? b with
  | some o'=>
   have:=I.bk b o' z
   rw [e] at this
   cases this
   exact F.keep b o z
  | none=>exact(N (b,o) (iY hb z e)).1
 refine I.step (g':=s.gens) (d':=s.drawn) (ch:=[]) (fun _ z=>nomatch z) (fun b o hb _ _ e _=>keep b o hb e) (fun b o hb _ _ e _=>⟨o.slots,keep b o hb e⟩) (fun b o _ e n=>n) (fun b o _ e=>?_) (fun _ _ e=>e) (fun _ _ _ e=>e) (fun b ps e=>⟨#[],by simpa using e⟩) (fun m' hm=>?_) (fun b o q=>?_) I.bare
 ·by_cases hb:b=X.env.locals
  ·subst hb
   obtain⟨o',_,_,z,_⟩:=F.ns
   exact⟨o',z⟩
  ·exact⟨o,keep b o hb e⟩
 ·have:m'=m:=funext fun x=>hm.agree hn x
  subst this
  exact F.ns
 ·refine(I.hok b o q).stay (fun c w' hc r=>keep c w' ?_ r) (fun _ r=>r) fun _ _ r=>r
  rintro rfl
  rcases hc with hc|hc
  ·rw [← hc,I.free] at q;cases q
  ·rw [I.free] at hc;cases hc
theorem nX:∀{bs:List Bool} {us:List Value},cB (bs.map V.bl) us→LSm.BoolsAre us bs
 | [],_,.nil=>.nil
 | b::bs,_,.cons e r=>by
  cases (show _=Value.bool b from e)
  exact .cons b (nX r)
theorem AeL (hc:X.calm=true):gP X (.builtin "any") (fun xs H Q=>∃(a:Addr) (bs:List Bool),xs=[.ref a]∧SqL X.K H a (bs.map V.bl)∧Q (.bl (bs.any id)) H):=by
 intro pins s σ H xs us Q I r h
 obtain⟨a,bs,rfl,hq,q⟩:=h
 obtain⟨u,rfl,rx⟩:=jV r
 cases rx
 obtain⟨its,r',pl,hz⟩:=I.list hq
 obtain⟨m,F⟩:=I.fr
 exact LSm.any_bools F qO (I.ok.hd hc) pl.isList (nX r') fun h' tk F' N'=>⟨.bl _,H,I.byNews F.ns F' N',rfl,q⟩
theorem lN (hc:X.calm=true):gP X (.builtin "all") (fun xs H Q=>∃(a:Addr) (bs:List Bool),xs=[.ref a]∧SqL X.K H a (bs.map V.bl)∧Q (.bl (bs.all id)) H):=by
 intro pins s σ H xs us Q I r h
 obtain⟨a,bs,rfl,hq,q⟩:=h
 obtain⟨u,rfl,rx⟩:=jV r
 cases rx
 obtain⟨its,r',pl,hz⟩:=I.list hq
 obtain⟨m,F⟩:=I.fr
 exact LSm.all_bools F qO (I.ok.hd hc) pl.isList (nX r') fun h' tk F' N'=>⟨.bl _,H,I.byNews F.ns F' N',rfl,q⟩
end
end L2
namespace L2
open PySem PySem.Spec PyProof.Rows PySem.W
theorem cE.get {P:Program} {w:World} {H:Hp} {h:Heap} {a:Addr} {o:HO} (x:cE P w H h a o):∃u,h.get? a=some u:=by
 cases o with
 | lst xs=>obtain⟨_,_,_,_,e⟩:=x;exact⟨_,e⟩
 | tup xs=>obtain⟨_,_,_,o,e,_⟩:=x;exact⟨_,e⟩
 | dK kvs=>obtain⟨_,_,_,_,o,_,_,e,_⟩:=x;exact⟨_,e⟩
 | dT kvs=>obtain⟨_,_,_,_,o,_,_,e,_⟩:=x;exact⟨_,e⟩
 | set S n=>obtain⟨o,_,_,_,e,_⟩:=x;exact⟨_,e⟩
 | ins C dx fs=>obtain⟨_,_,_,e,_⟩:=x;exact⟨_,e⟩
 | own y=>obtain⟨_,e⟩:=x;exact⟨_,e⟩
 | xd fs=>obtain⟨_,⟨_,_,_,e,_⟩,_⟩:=x;exact⟨_,e⟩
 | rng lo hi=>obtain⟨_,_,_,e⟩:=x;exact⟨_,e⟩
 | frz ob u=>obtain⟨e,_⟩:=x;exact⟨_,e⟩
 | tbl ps=>exact⟨_,show h.get? a=some _ from x⟩
 | met f y=>exact⟨_,show h.get? a=some _ from x⟩
 | ext φ=>obtain⟨_,⟨_,e⟩,_⟩:=x;exact⟨_,e⟩
section
variable {X:Cx}
theorem Inv.byNewsL {pins:List (Addr × Obj)} {σ:St} {H:Hp} {s:Shared} {h':Heap} {tk:Nat} {m:Str→Option Value} {D:Addr} {zs:List V} (I:Inv X pins σ H s) (hn:s.heap.Ns X.env.locals m) (hns:h'.Ns X.env.locals m)
  (keep:∀b o,b≠X.env.locals→s.heap.get? b=some o→h'.get? b=some o) (hD:s.heap.get? D=none) (hl:zs.length≤sizeLine) {its:List Value} {n:Nat} (rv:cB zs its) (at_:h'.get? D=some { cls:=.type "list",data:=.seq its.toArray n }):
  H D=none∧Inv X pins σ (upd H D (.lst zs)) { s with heap:=h',toks:=tk }:=by
 have hH:H D=none:=by
  cases z:H D with
  | none=>rfl
  | some o=>
   obtain⟨u,e⟩:=(I.hok D o z).get
   rw [hD] at e;cases e
 refine⟨hH,?_⟩
 have ne:∀b o,s.heap.get? b=some o→b≠D:=fun b o e z=>by
  rw [z,hD] at e;cases e
 have neH:∀b o,H b=some o→b≠D:=fun b o e z=>by
  rw [z,hH] at e;cases e
 refine I.step (g':=s.gens) (d':=s.drawn) (ch:=[]) (fun _ z=>nomatch z) (fun b o hb _ _ e _=>keep b o hb e) (fun b o hb _ _ e _=>⟨o.slots,keep b o hb e⟩) (fun b o _ e n=>by rw [aC (ne b o e)];exact n) (fun b o _ e=>?_) (fun b xs e=>by rw [aC (neH b _ e)];exact e) (fun b o u e=>by rw [aC (neH b _ e)];exact e) (fun b ps e=>⟨#[],by rw [aC (neH b _ e)];simpa using e⟩) (fun m' hm=>?_) (fun b o q=>?_) I.bare
 ·by_cases hb:b=X.env.locals
  ·subst hb
   obtain⟨o',_,_,z,_⟩:=hns
   exact⟨o',z⟩
  ·exact⟨o,keep b o hb e⟩
 ·have:m'=m:=funext fun x=>hm.agree hn x
  subst this
  exact hns
 ·by_cases hb:b=D
  ·subst hb
   rw [aB] at q
   cases q
   exact⟨hl,its,n,rv,at_⟩
  ·rw [aC hb] at q
   refine(I.hok b o q).stay (fun c w' hc r=>keep c w' ?_ r) (fun c e=>by rw [aC (neH c _ e)];exact e) fun c xs e=>by rw [aC (neH c _ e)];exact e
   rintro rfl
   rcases hc with hc|hc
   ·rw [← hc,I.free] at q;cases q
   ·rw [I.free] at hc;cases hc
theorem jP:∀{ns:List Int} {us:List Value} {i:Nat},cB (ns.map V.int) us→i<ns.length→∃t,us.getD i .none=.int (ns.getD i 0) t
 | n::ns,_,0,.cons ⟨t,e⟩ r,_=>⟨t,e⟩
 | n::ns,_,i+1,.cons e r,h=>jP (i:=i) r (by simpa using h)
theorem wD:∀{ns:List Int} {us:List Value},cB (ns.map V.int) us→IntsAre us ns
 | [],_,.nil=>.nil
 | n::ns,_,.cons ⟨t,e⟩ r=>by
  subst e
  exact .cons n t (wD r)
theorem AaE {prog:Program} {w:World} {A:Around} {E:Value→Shared→Prop} {s:Shared} {D:Addr} {vs:List Value} {ns:List Int} {n:Nat} {Q:Value→Shared→Prop} (ho:s.heap.get? D=some (seqObj "list" vs.toArray n)) (rv:cB (ns.map V.int) vs) (h64:ns.length<64)
  (h:∀(os:List Value) (ns':List Int),cB (ns'.map V.int) os→ns'.Perm ns→ns'.Pairwise (·≤·)→Q .none { s with heap:=sortedHeap s.heap D vs os.toArray }):wpAny (model prog w) A (call (.builtin "list.sort") [.ref D]) Q E s:=by
 have hlen:vs.length=ns.length:=by
  have:=rv.length
  rw [List.length_map] at this
  omega
 refine wpAny_call_entry slot_list_sort ⟨_,ho,rfl⟩ entry_list_sort ?_ (args_list_sort _)
 refine sortT (G:=fun p=>p.toList.Perm (List.range ns.length)∧∀i j,i≤j→j<ns.length→ns.getD (p.getD i 0) 0≤ns.getD (p.getD j 0) 0) ho (by omega) (fun h2 s1 _=>?_) fun out hout=>⟨.none,rfl,?_⟩
 ·obtain⟨q1,q2⟩:=AaD (prog:=prog) (w:=w) (s:=s) ns (by omega) h64
  have kk:keyKind' vs.toArray=pure oneType':=by
   match vs,h2,wD rv with
   | v1::v2::r,_,ia=>exact keyKind_ints ia
  rw [kk]
  refine wpAny_pure ⟨rfl,?_⟩
  rw [hlen]
  refine nO (lt:=fun i j=>decide (ns.getD i 0<ns.getD j 0)) (fun i j C hi hj hC=>?_) (uM (n:=ns.length) (by omega)) ⟨rfl,q1,q2⟩
  obtain⟨t1,e1⟩:=jP rv hi
  obtain⟨t2,e2⟩:=jP rv hj
  unfold kas_cmp
  show wpAny _ _ (keyLt' _ (kas_item (vs.toArray.zip vs.toArray) i).1 (kas_item (vs.toArray.zip vs.toArray) j).1) _ _ _
  rw [kat_item rfl,kat_item rfl]
  show wpAny _ _ (keyLt' _ (vs.getD i .none) (vs.getD j .none)) _ _ _
  rw [e1,e2]
  exact kat_lt_int hC
 ·rcases hout with ⟨h2,rfl⟩|⟨p,⟨g1,g2⟩,g3,rfl⟩
  ·refine h vs ns rv (List.Perm.refl _) ?_
   match ns,hlen with
   | [],_=>exact List.Pairwise.nil
   | [k],_=>exact List.pairwise_singleton _ _
   | k::k'::r,z=>simp at z;omega
  ·have low:∀i ∈ p.toList,i<ns.length:=fun i hi=>List.mem_range.mp (g1.mem_iff.mp hi)
   have pl:p.toList.length=ns.length:=by rw [g1.length_eq,List.length_range]
   have e:p.map (fun i=>vs.getD i .none)=(p.toList.map fun i=>vs.getD i .none).toArray:=by
    apply Array.ext'
    simp
   rw [e]
   refine h _ (p.toList.map fun i=>ns.getD i 0) ?_ ?_ ?_
   ·rw [List.map_map]
    exact gR _ _ fun i hi=>by
     obtain⟨t,e⟩:=jP rv (low i hi)
     exact⟨t,e⟩
   ·have:=g1.map fun i=>ns.getD i 0
    have e2:(List.range ns.length).map (fun i=>ns.getD i 0)=ns:=by
     apply List.ext_getElem
     ·simp
     ·intro i h1 h2
      simp [List.getD_eq_getElem?_getD,h2]
    rwa [e2] at this
   ·rw [List.pairwise_iff_getElem]
    intro i j hi hj hij
    have hj':j<ns.length:=by rw [List.length_map,pl] at hj;exact hj
    have k:=g2 i j (by omega) hj'
    have g:∀i (h:i<p.toList.length),p.getD i 0=p.toList[i]:=fun i h=>by
     have:i<p.size:=by simpa using h
     simp [Array.getD,this]
    rw [g i (by omega),g j (by omega)] at k
    rw [List.getElem_map,List.getElem_map]
    exact k
theorem uS (hc:X.calm=true):gP X (.builtin "sorted") (fun xs H Q=>∃(a:Addr) (kvs:List (Key × V)) (ns:List Int),xs=[.ref a]∧H a=some (.dK kvs)∧kvs.map (·.1)=ns.map Sum.inl∧ns.length<64 ∧
  ∀(l:Addr) (ns':List Int),H l=none→ns'.Perm ns→ns'.Pairwise (·≤·)→Q (.ref l) (upd H l (.lst (ns'.map V.int)))):=by
 intro pins s σ H xs us Q I r h
 obtain⟨a,kvs,ns,rfl,hq,hk,h64,q⟩:=h
 obtain⟨u,rfl,rx⟩:=jV r
 cases rx
 obtain⟨hz,hS,vs,rv,o,es,ep,d1,d2,d3,d4,d5,d6⟩:=I.hok a _ hq
 have sl:sizeLine=16777216:=sizeLine_eq
 have vl:kvs.length=vs.length:=Paired.length rv
 have kl:kvs.length=ns.length:=by
  have:=congrArg List.length hk
  rwa [List.length_map,List.length_map] at this
 obtain⟨m,F⟩:=I.fr
 have keys:vs.map (·.1)=ns.map Sum.inl:=by
  rw [← hk]
  clear hk hq d5 d6 vl kl hz q
  induction rv with
  | nil=>rfl
  | cons e t ih=>rw [List.map_cons,List.map_cons,ih,e.1]
 refine kdu_sorted (kdl_dict (knd:=cV X.prog X.w) (kvs:=vs) (ep:=ep) hS) (I.ok.hd hc) F qO ⟨o,es,d1,d2,d3,d4,d5,d6⟩ (by omega) fun D h' tk us F' N' above hlen hP=>?_
 have uints:∀j (hj:j<us.length),∃t,us[j]=.int (ns.getD j 0) t:=fun j hj=>by
  obtain⟨k,x,e1,e2⟩:=hP j us[j] (List.getElem?_eq_getElem hj)
  have e3:(vs.map (·.1))[j]?=some k:=by rw [List.getElem?_map,e1];rfl
  rw [keys,List.getElem?_map] at e3
  have hj':j<ns.length:=by omega
  rw [List.getElem?_eq_getElem hj'] at e3
  have e3:Sum.inl ns[j]=k:=Option.some.inj e3
  subst e3
  obtain⟨t,e⟩:=Value.isInt_shape (k:=ns[j]) (v:=us[j]) e2
  exact⟨t,by rw [e,List.getD_eq_getElem?_getD,List.getElem?_eq_getElem hj'];rfl⟩
 have rvU:cB (ns.map V.int) us:=by
  have e1:us=(List.range us.length).map fun j=>us.getD j .none:=by
   apply List.ext_getElem
   ·simp
   ·intro i h1 h2
    simp [List.getD_eq_getElem?_getD,h1]
  have e2:ns.map V.int=(List.range us.length).map fun j=>V.int (ns.getD j 0):=by
   apply List.ext_getElem
   ·simp;omega
   ·intro i h1 h2
    have:i<ns.length:=by simpa using h1
    simp [List.getD_eq_getElem?_getD,this]
  rw [e2]
  rw [e1]
  simp only [List.length_map,List.length_range]
  refine gR _ _ fun j hj=>?_
  have hj':j<us.length:=List.mem_range.mp hj
  obtain⟨t,e⟩:=uints j hj'
  refine⟨t,?_⟩
  rw [← e,List.getD_eq_getElem?_getD,List.getElem?_eq_getElem hj']
  rfl
 have hDn:=N' (D,W.listOf us.toArray 0) (List.mem_cons_self ..)
 have hD0:s.heap.get? D=none:=by
  cases z:s.heap.get? D with
  | none=>rfl
  | some ob=>
   have:=above (D,ob) (iY hDn.2.1 hDn.2.2 z)
   exact absurd this (Nat.lt_irrefl _)
 have keep:∀b ob,b≠X.env.locals→s.heap.get? b=some ob→h'.get? b=some ob:=fun b ob hb e=>by
  cases z:X.base.get? b with
  | some o'=>
   have:=I.bk b o' z
   rw [e] at this
   cases this
   exact F'.keep b ob z
  | none=>exact(N' (b,ob) (List.mem_cons_of_mem _ (iY hb z e))).1
 refine AaE (n:=0) hDn.1 rvU h64 fun os ns' r' pm pw=>?_
 obtain⟨c,at_⟩:=sortedHeap_at (out:=os.toArray) (show h'.get? D=some (seqObj "list" us.toArray 0) from hDn.1)
 have old:∀b ob,b≠D→h'.get? b=some ob→(sortedHeap h' D us os.toArray).get? b=some ob:=fun b ob hb e=>by
  rw [sortedHeap_old hb (Heap.lt_size e)]
  exact e
 have ns'l:ns'.length=ns.length:=pm.length_eq
 have hns:(sortedHeap h' D us os.toArray).Ns X.env.locals m:=by
  obtain⟨o1,e1,e2,z,rr⟩:=F'.ns
  exact⟨o1,e1,e2,old _ _ hDn.2.1.symm z,rr⟩
 obtain⟨z1,I1⟩:=I.byNewsL (tk:=tk) (zs:=ns'.map V.int) F.ns hns (fun b ob hb e=>old b ob (fun z=>by rw [z,hD0] at e;cases e) (keep b ob hb e)) hD0 (by rw [List.length_map];omega) r' at_
 exact⟨.ref D,_,I1,rfl,q D ns' z1 pm pw⟩
end
end L2
namespace L2
open PySem PySem.Spec PyProof.Rows PySem.W
section
variable {X:Cx}
theorem sU:OpR X (compareOp .LtE) (fun x y H Q=>∃i j,x=.str i∧y=.str j∧Q (.bl (!decide (j.cps.toList<i.cps.toList))) H):=by
 intro pins s σ H x y v u Q I rx ry h
 obtain⟨i,j,rfl,rfl,q⟩:=h
 obtain⟨t,rfl⟩:=rx
 obtain⟨t',rfl⟩:=ry
 exact PySem.P.le_str ⟨.bl _,H,I,rfl,q⟩
end
end L2
namespace L2
open PySem PySem.Spec PyProof.Rows PySem.W
section
variable {prog:Program} {w:World} {A:Around} {E:Value→Shared→Prop} {s:Shared}
theorem wR {α:Type} {M:Model} {c:Prop} [Decidable c] {a b:Sem α} {Q:α→Shared→Prop} (h1:c→wpAny M A a Q E s) (h2:¬ c→wpAny M A b Q E s):wpAny M A (if c then a else b) Q E s:=by
 split
 ·exact h1 ‹_›
 ·exact h2 ‹_›
theorem yB {t:Addr} {items:Array Value} {i:Int} {u:Tok} {Q:Value→Shared→Prop} (ht:IsTup s.heap t items) (hi:Builtin.SmallTypes.fitsIndex i=true)
  (hQ:∀h':Heap,IsEnum h' (s.heap.objs.size+1) s.heap.objs.size i .none→h'.IsTupleIter s.heap.objs.size t 0→h'.objs.size=s.heap.objs.size+2→(∀b o,s.heap.get? b=some o→h'.get? b=some o)→Q (.ref (s.heap.objs.size+1)) { s with heap:=h' }):
  wpAny (model prog w) A (call (.type "enumerate") [.ref t] [("start",.int i u)]) Q E s:=by
 refine wpAny_call (codeAny_of_tree ?_)
 refine wpAny_pure ⟨Code.quiet_builtin _ callType_meets._proof_1_1,codeAny_builtin F.entry_type_call ?_⟩
 rw [Around.under_plain (weight_type_call_type "enumerate" [.ref t] [("start",.int i u)]) (units_type_call_type "enumerate" [.ref t] [("start",.int i u)])]
 have ft:=F.called_enumerate
 unfold Builtin.«type.__call__»
 refine wpAny_ite_false (by decide) ?_
 refine wpAny_ite_false (by rw [ft.canCreate];decide) ?_
 have hct:checkTypeCall "enumerate" { pos:=[.ref t],kw:=[("start",.int i u)] }=pure ():=by rfl
 obtain⟨c,tl,hmro⟩:=ft.mro
 have hmade:=ft.made
 refine wpAny_bind (wpAny_of_eq hct ?_)
 refine wpAny_bind (wpAny_of_eq hmro ?_)
 refine wpAny_ite_false (by simp) ?_
 refine wpAny_bind (wpAny_of_eq hmade ?_)
 refine wpAny_bind (wpAny_pure ?_)
 refine wpAny_bind (wpAny_holding ?_)
 have hcn:checkBuiltinCall "enumerate.__new__" { pos:=[Value.type "enumerate",.ref t],kw:=[("start",.int i u)] }=pure ():=by kernel_rfl
 refine wpAny_call (codeAny_call_builtin ft.plain F.entry_enumerate_new (wpAny_of_eq hcn ?_))
 unfold Builtin.«enumerate.__new__»
 have hnc:Builtin.SmallTypes.newClass "enumerate" { pos:=[Value.type "enumerate",.ref t],kw:=[("start",.int i u)] }=pure (Value.type "enumerate",[.ref t]):=by rfl
 refine wpAny_bind (wpAny_of_eq hnc ?_)
 refine wpAny_ite_true (by decide) ?_
 refine wpAny_bind ?_
 unfold Builtin.SmallTypes.calledThroughType
 refine wpAny_bind (wpAny_stack_any fun st=>wpAny_pure ?_)
 have rest:∀(R:PySem.Fin→Shared→Prop) (E':Value→Shared→Prop),(∀h':Heap,IsEnum h' (s.heap.objs.size+1) s.heap.objs.size i .none→h'.IsTupleIter s.heap.objs.size t 0→h'.objs.size=s.heap.objs.size+2→(∀b o,s.heap.get? b=some o→h'.get? b=some o)→R (PySem.Fin.done (Flow.ret (.ref (s.heap.objs.size+1)))) { s with heap:=h' }) →
   wpAny (model prog w) A.in1.in1 (do
    let obj ← Builtin.SmallTypes.indexObject "enumerate.__new__" (Value.int i u)
    let x ← asInt? obj
    match x with
    | some i=>
     if (!Builtin.SmallTypes.fitsIndex i)=true then do
      rule "enumerate.__new__.huge-start"
      match obj with
      | Value.int _ _=>do
       let given ← pure obj
       let it ← pyIter (.ref t)
       let r ← Builtin.SmallTypes.newRecord (Value.type "enumerate") (Builtin.SmallTypes.ownedTupleFields++[it,rawInt i,given,Value.none])
       ret r
      | _=>do
       let given ← mkInt i
       let it ← pyIter (.ref t)
       let r ← Builtin.SmallTypes.newRecord (Value.type "enumerate") (Builtin.SmallTypes.ownedTupleFields++[it,rawInt i,given,Value.none])
       ret r
     else do
      let it ← pyIter (.ref t)
      let r ← Builtin.SmallTypes.newRecord (Value.type "enumerate") (Builtin.SmallTypes.ownedTupleFields++[it,rawInt i,Value.none,Value.none])
      ret r
    | none=>do
     let _ ← (unsupported "internal:enumerate.__new__":Sem Unit)
     let it ← pyIter (.ref t)
     let r ← Builtin.SmallTypes.newRecord (Value.type "enumerate") (Builtin.SmallTypes.ownedTupleFields++[it,rawInt 0,Value.none,Value.none])
     ret r) R E' s:=fun R E' hR=>by
  refine wpAny_bind (wpAny_of_eq (a:=Value.int i u) (by rfl) ?_)
  refine wpAny_bind (wpAny_of_eq (a:=some i) (by rfl) ?_)
  refine wpAny_ite_false (by rw [hi];decide) ?_
  refine wpAny_bind (wpAny_pyIter_tuple (show s.heap.IsTuple t items from ht) ?_)
  refine wpAny_bind ?_
  show wpAny _ _ (newObj (Value.type "enumerate") (Data.fields #[Value.none,Value.bool false,.ref s.heap.objs.size,rawInt i,Value.none,Value.none])) _ _ _
  refine wpAny_newObj_type ?_
  refine wpAny_pure ?_
  have sz:(s.heap.push { cls:=Value.type "tuple_iterator",data:=Data.fields #[Value.ref t,Value.int 0 0] }).objs.size=s.heap.objs.size+1:=by rw [Heap.size_push]
  rw [sz]
  refine hR _ ?_ ?_ ?_ ?_
  ·rw [← sz]
   exact Heap.get?_push_size _ rfl
  ·exact⟨_,Heap.get?_push_of_some _ (Heap.get?_push_size _ rfl),rfl,rfl⟩
  ·rw [Heap.size_push,sz]
  ·exact fun b o e=>Heap.get?_push_of_some _ (Heap.get?_push_of_some _ e)
 refine wR (fun _=>?_) (fun _=>?_)
 all_goals
  refine wpAny_bind (wpAny_of_eq (a:=(Value.ref t,some (Value.int i u))) (by kernel_rfl) ?_)
  refine rest _ _ fun h' e1 e2 e3 e4=>?_
  show wpAny _ _ (isInstance (Value.ref (s.heap.objs.size+1)) (Value.type "enumerate") >>= _) _ _ _
  refine wpAny_bind (wpAny_isInstance ⟨_,e1,rfl⟩ ft.sub ?_)
  refine wpAny_ite_false (by decide) ?_
  refine wpAny_bind (wpAny_holding (wpAny_callSpecial?_slot ⟨_,e1,rfl⟩ ft.init ?_))
  refine wpAny_call_entry_kw ft.init ⟨_,e1,rfl⟩ F.entry_object_init ?_ (by kernel_rfl)
  unfold Builtin.«object.__init__»
  refine wpAny_ite_true (by rfl) ?_
  refine wpAny_bind (wpAny_typeOf ⟨_,e1,rfl⟩ ?_)
  refine wpAny_bind (wpAny_of_eq ft.init.lookup ?_)
  refine wpAny_bind (wpAny_of_eq hmade ?_)
  refine wpAny_ite_false (by decide) ?_
  refine wpAny_ite_false (by kernel_rfl) ?_
  refine wpAny_pure ⟨_,rfl,?_⟩
  refine wpAny_ite_false (by decide) ?_
  refine wpAny_pure ?_
  exact hQ h' e1 e2 e3 e4
end
end L2
namespace L2
open PySem PySem.Spec PyProof.Rows PySem.W
section
variable {prog:Program} {w:World} {A:Around} {E:Value→Shared→Prop} {s:Shared}
theorem xS {it t:Addr} {i:Nat} {items:Array Value} {x:Value} {Q:Value→Shared→Prop} (hit:IsTupIter s.heap it t i) (ht:IsTup s.heap t items) (hx:items[i]?=some x)
  (hQ:∀h',IsTupIter h' it t (i+1)→Heap.SameBut it s.heap h'→Q x { s with heap:=h' }):wpAny (model prog w) A (Builtin.SmallTypes.nextOf (.ref it)) Q E s:=by
 obtain⟨o,ho,hc,hd⟩:=id hit
 obtain⟨ol,hol,hcl,nl,hdl⟩:=id ht
 unfold Builtin.SmallTypes.nextOf
 refine wpAny_bind (wpAny_callSpecial?_slot hit.typeIs slot_tupleiter_next (wpAny_call_entry slot_tupleiter_next hit.typeIs entry_tupleiter_next ?_ (args_tupleiter_next _)))
 show wpAny _ _ (field (Value.ref it) 0 >>= _) _ _ _
 refine wpAny_bind (wpAny_field ho hd (x:=.ref t) rfl ?_)
 refine wpAny_ite_false (by rfl) ?_
 refine wpAny_bind (wpAny_field ho hd (x:=.int i 0) rfl ?_)
 refine wpAny_bind (wpAny_seqItems hol hdl ?_)
 show wpAny _ _ (match items[((i:Int)).toNat]? with|some x=>_|none=>_) _ _ _
 rw [Int.toNat_natCast,hx]
 refine wpAny_bind (wpAny_setField ho hd (by simp) ?_)
 refine wpAny_pure ⟨x,rfl,wpAny_pure (hQ _ ⟨_,Heap.get?_update_self _ ho (Obj.isFreed_of_fields (Obj.data_mapFields hd _)),(Obj.cls_mapFields o _).trans hc,?_⟩ (Heap.SameBut.update s.heap it _))⟩
 rw [Obj.data_mapFields hd]
 simp [rawInt]
theorem iX {it t:Addr} {i:Nat} {items:Array Value} {Q:Value→Shared→Prop} (hh:A.handled=none) (hit:IsTupIter s.heap it t i) (ht:IsTup s.heap t items) (hx:items[i]?=none)
  (hE:∀h' e,Heap.ExtBut it s.heap h'→(∃o,h'.get? e=some o∧o.cls=Value.type "StopIteration")→E (.ref e) { s with heap:=h' }):wpAny (model prog w) A (Builtin.SmallTypes.nextOf (.ref it)) Q E s:=by
 obtain⟨o,ho,hc,hd⟩:=id hit
 obtain⟨ol,hol,hcl,nl,hdl⟩:=id ht
 unfold Builtin.SmallTypes.nextOf
 refine wpAny_bind (wpAny_callSpecial?_slot hit.typeIs slot_tupleiter_next (wpAny_call_entry slot_tupleiter_next hit.typeIs entry_tupleiter_next ?_ (args_tupleiter_next _)))
 show wpAny _ _ (field (Value.ref it) 0 >>= _) _ _ _
 refine wpAny_bind (wpAny_field ho hd (x:=.ref t) rfl ?_)
 refine wpAny_ite_false (by rfl) ?_
 refine wpAny_bind (wpAny_field ho hd (x:=.int i 0) rfl ?_)
 refine wpAny_bind (wpAny_seqItems hol hdl ?_)
 show wpAny _ _ (match items[((i:Int)).toNat]? with|some x=>_|none=>_) _ _ _
 rw [Int.toNat_natCast,hx]
 refine wpAny_bind (wpAny_rule ?_)
 refine wpAny_bind (wpAny_setField ho hd (by simp) ?_)
 unfold Builtin.SmallTypes.stopIteration
 refine wpAny_bind ?_
 unfold newExc
 refine wpAny_bind (wpAny_newTuple ?_ (Nat.zero_le _))
 refine wpAny_bind (wpAny_of_eq rfl ?_)
 refine wpAny_newObj_type ?_ (sizeOk_excFields _ _ _ _ _ _ _ _)
 unfold raiseNew
 refine wpAny_bind (wpAny_handled ?_)
 rw [show A.in1.handled=none from hh]
 refine wpAny_throw ?_
 refine hE _ _ (fun b ob hb e=>?_) ⟨_,Heap.get?_push_size _ rfl,rfl⟩
 refine Heap.get?_push_of_some _ (Heap.get?_push_of_some _ ?_)
 rw [Heap.get?_update_ne _ _ _ _ hb]
 exact e
theorem AbG {it t:Addr} {items:Array Value} (hh:A.handled=none) (ne:t≠it):Draws prog w A it [it,t] items.size (fun i v=>items[i]?=some v) (fun i h=>IsTupIter h it t i∧IsTup h t items) where
 live:=fun i h ⟨⟨o,ho,_⟩,_⟩=>⟨o,ho⟩
 frame:=fun i h h' ⟨⟨o,ho,r⟩,⟨o',ho',r'⟩⟩ k=>⟨⟨o,k it (by simp) o ho,r⟩,⟨o',k t (by simp) o' ho',r'⟩⟩
 item:=fun i s Q E hi st h=>xS st.1 st.2 (Array.getElem?_eq_getElem hi) fun h' hit' sb=>h _ h' s.toks (Array.getElem?_eq_getElem hi) ⟨hit',by
  obtain⟨o',ho',r'⟩:=st.2
  exact⟨o',(sb.2 t ne).trans ho',r'⟩⟩ sb
 done:=fun s Q E st h=>iX hh st.1 st.2 (by simp) h
theorem AaS {e it:Addr} {fp:List Addr} {n j:Nat} {i:Int} {P:Nat→Value→Prop} {St:Nat→Heap→Prop} {old:Value} {Q:Option Value→Shared→Prop} (D:Draws prog w A.in1 it fp n P St) (he:IsEnum s.heap e it i old) (hst:St j s.heap) (hlt:j<n) (hne:e≠it) (hef:e ∉ fp)
  (hQ:∀x h' tk,P j x→IsEnumOut h' e it (i+1) x s.heap.objs.size→St (j+1) h'→h'.get? s.heap.objs.size=some { cls:=Value.type "tuple",data:=Data.seq #[Value.int i tk,x] }→h'.objs.size=s.heap.objs.size+1 →
   (∀b o,b≠e→b≠it→s.heap.get? b=some o→h'.get? b=some o)→Q (some (.ref s.heap.objs.size)) { s with heap:=h',toks:=tk+1 }):wpAny (model prog w) A (pyNext (.ref e)) Q E s:=by
 have hT:s.TypeIs (.ref e) "enumerate":=⟨_,he,rfl⟩
 show wpAny _ _ (_ >>= _) _ _ _
 refine wpAny_bind (wpAny_attempt (wpAny_callSpecial?_slot hT F.slot_enumerate_next (wpAny_call_entry F.slot_enumerate_next hT F.entry_enumerate_next ?_ (F.args_enumerate_next_1 _))))
 unfold Builtin.«enumerate.__next__»
 refine wpAny_bind (wpAny_of_eq (a:=(Value.ref e,[])) (by rfl) ?_)
 refine wpAny_bind (wpAny_field he rfl rfl ?_)
 refine wpAny_bind (D.item j s _ _ hlt hst fun x h1 tk hx st1 sb1=>?_)
 have he1:=(sb1.2 e hne).trans he
 refine wpAny_bind (wpAny_field he1 rfl rfl ?_)
 refine wpAny_bind (wpAny_field he1 rfl rfl ?_)
 refine wpAny_ite_true (by rfl) ?_
 refine wpAny_bind (wpAny_mkInt ?_)
 refine wpAny_bind (wpAny_setField_rec he1 (by simp) fun h2 he2 sb2=>?_)
 refine wpAny_bind (wpAny_setField_rec he2 (by simp) fun h3 he3 sb3=>?_)
 refine wpAny_bind (wpAny_newTuple ?_ (by show 2≤sizeLine;decide))
 have he4:(h3.push { cls:=Value.type "tuple",data:=Data.seq #[Value.int i tk,x] }).get? e=some { cls:=Value.type "enumerate",data:=Data.fields #[Value.none,Value.bool false,Value.ref it,rawInt (i+1),Value.none,old] }:=Heap.get?_push_of_some _ he3
 unfold Builtin.SmallTypes.ownedTupleIsFree
 refine wpAny_bind (wpAny_bind (wpAny_field he4 rfl rfl (wpAny_pure ?_)))
 refine wpAny_ite_true (by rfl) ?_
 refine wpAny_bind (wpAny_rule ?_)
 refine wpAny_bind (wpAny_field he4 rfl rfl ?_)
 refine wpAny_bind (wpAny_setField_rec he4 (by simp) fun h5 he5 sb5=>?_)
 unfold Builtin.SmallTypes.ownedTupleHandOut
 refine wpAny_bind (wpAny_bind (wpAny_setField_rec he5 (by simp) fun h6 he6 sb6=>?_))
 refine wpAny_setField_rec he6 (by simp) fun h7 he7 sb7=>?_
 refine wpAny_bind (wpAny_letGo ?_)
 have sz3:h3.objs.size=s.heap.objs.size:=sb3.1.trans (sb2.1.trans sb1.1)
 have sz4:(h3.push { cls:=Value.type "tuple",data:=Data.seq #[Value.int i tk,x] }).objs.size=s.heap.objs.size+1:=by rw [Heap.size_push,sz3]
 have sz7:h7.objs.size=s.heap.objs.size+1:=sb7.1.trans (sb6.1.trans (sb5.1.trans sz4))
 have el:e<s.heap.objs.size:=Heap.lt_size he
 have old7:∀b o,b≠e→(h3.push { cls:=Value.type "tuple",data:=Data.seq #[Value.int i tk,x] }).get? b=some o→h7.get? b=some o:=fun b o hb z=>(sb7.2 b hb).trans ((sb6.2 b hb).trans ((sb5.2 b hb).trans z))
 have k1:∀b o,b≠e→h1.get? b=some o→h7.get? b=some o:=fun b o hb z=>old7 b o hb (Heap.get?_push_of_some _ ((sb3.2 b hb).trans ((sb2.2 b hb).trans z)))
 refine wpAny_pure ⟨_,rfl,?_⟩
 show wpAny _ _ (pure (some (Value.ref h3.objs.size))) _ _ _
 refine wpAny_pure ?_
 rw [sz3]
 have he7':h7.get? e=some { cls:=Value.type "enumerate",data:=Data.fields #[rawInt (h3.objs.size:Nat),Value.bool false,Value.ref it,rawInt (i+1),Value.none,x] }:=he7
 rw [sz3] at he7'
 refine hQ x h7 tk hx he7' (D.frame (j+1) h1 h7 st1 fun b hb o z=>k1 b o (fun q=>hef (q ▸ hb)) z) ?_ sz7 fun b o hb hb' z=>k1 b o hb ((sb1.2 b hb').trans z)
 refine old7 _ _ (Nat.ne_of_gt el) ?_
 rw [← sz3]
 exact Heap.get?_push_size _ rfl
end
end L2
namespace L2
open PySem PySem.Spec PyProof.Rows PySem.W
section
variable {prog:Program} {w:World} {A:Around} {E:Value→Shared→Prop} {s:Shared}
theorem rO {e it t:Addr} {j:Nat} {i:Int} {items:Array Value} {old:Value} {Q:Option Value→Shared→Prop} (hh:A.handled=none) (he:IsEnum s.heap e it i old) (hit:IsTupIter s.heap it t j) (ht:IsTup s.heap t items) (hx:items[j]?=none)
  (hQ:∀h',Heap.ExtBut it s.heap h'→Q none { s with heap:=h' }):wpAny (model prog w) A (pyNext (.ref e)) Q E s:=by
 have hT:s.TypeIs (.ref e) "enumerate":=⟨_,he,rfl⟩
 show wpAny _ _ (_ >>= _) _ _ _
 refine wpAny_bind (wpAny_attempt (wpAny_callSpecial?_slot hT F.slot_enumerate_next (wpAny_call_entry F.slot_enumerate_next hT F.entry_enumerate_next ?_ (F.args_enumerate_next_1 _))))
 unfold Builtin.«enumerate.__next__»
 refine wpAny_bind (wpAny_of_eq (a:=(Value.ref e,[])) (by rfl) ?_)
 refine wpAny_bind (wpAny_field he rfl rfl ?_)
 exact wpAny_bind (iX hh hit ht hx fun h' x he' ⟨o,ho,hc⟩=>wpAny_bind (wpAny_isInstance ⟨o,ho,hc⟩ isSubtype_stop (wpAny_pure (hQ h' he'))))
end
section
variable {X:Cx}
theorem Inv.turnedL {pins:List (Addr × Obj)} {σ:St} {H:Hp} {s:Shared} {h':Heap} {tk:Nat} {ch:List Addr} {T:Addr} {zs:List V} (I:Inv X pins σ H s) (hf:∀b ∈ ch,iN X pins H b) (k:∀b o,b ∉ ch→s.heap.get? b=some o→h'.get? b=some o)
  (hT:s.heap.objs.size≤T) (new:cE X.prog X.w (upd H T (.tup zs)) h' T (.tup zs)):Inv X pins σ (upd H T (.tup zs)) { s with heap:=h',toks:=tk }:=by
 have hH:H T=none:=I.hok.fresh hT
 have ne:∀b o,s.heap.get? b=some o→b≠T:=fun b o e z=>by
  have:=Heap.lt_size e
  rw [z] at this
  exact absurd (Nat.lt_of_lt_of_le this hT) (Nat.lt_irrefl _)
 have neH:∀b o,H b=some o→b≠T:=fun b o e z=>by
  rw [z,hH] at e;cases e
 have lch:X.env.locals ∉ ch:=fun z=>(hf _ z).2.1 rfl
 refine I.step (g':=s.gens) (d':=s.drawn) (ch:=ch) (fun b hb=>⟨(hf b hb).2.2.2.1,(hf b hb).2.1,(hf b hb).2.2.2.2.1,(hf b hb).2.2.2.2.2⟩) (fun b o _ _ hc e _=>k b o hc e) (fun b o _ _ hc e _=>⟨o.slots,k b o hc e⟩) (fun b o _ e n=>by rw [aC (ne b o e)];exact n) (fun b o hc e=>⟨o,k b o hc e⟩) (fun b xs e=>by rw [aC (neH b _ e)];exact e) (fun b o u e=>by rw [aC (neH b _ e)];exact e) (fun b ps e=>⟨#[],by rw [aC (neH b _ e)];simpa using e⟩) (fun m' hm=>?_) (fun b o q=>?_) I.bare
 ·obtain⟨o,es,ep,z,r⟩:=hm
  exact⟨o,es,ep,k _ _ lch z,r⟩
 ·by_cases hb:b=T
  ·subst hb
   rw [aB] at q
   cases q
   exact new
  ·rw [aC hb] at q
   refine(I.hok b o q).stay (fun c w' hc r=>k c w' ?_ r) (fun c e=>by rw [aC (neH c _ e)];exact e) fun c xs e=>by rw [aC (neH c _ e)];exact e
   intro z
   rcases hc with hc|hc
   ·rw [← hc,(hf c z).1] at q;cases q
   ·rw [(hf c z).1] at hc;cases hc
theorem Inv.turnedN {pins:List (Addr × Obj)} {σ:St} {H:Hp} {s:Shared} {h':Heap} {tk:Nat} {ch:List Addr} (I:Inv X pins σ H s) (hf:∀b ∈ ch,iN X pins H b) (k:∀b o,b ∉ ch→s.heap.get? b=some o→h'.get? b=some o):Inv X pins σ H { s with heap:=h',toks:=tk }:=by
 have lch:X.env.locals ∉ ch:=fun z=>(hf _ z).2.1 rfl
 refine I.step (g':=s.gens) (d':=s.drawn) (ch:=ch) (fun b hb=>⟨(hf b hb).2.2.2.1,(hf b hb).2.1,(hf b hb).2.2.2.2.1,(hf b hb).2.2.2.2.2⟩) (fun b o _ _ hc e _=>k b o hc e) (fun b o _ _ hc e _=>⟨o.slots,k b o hc e⟩) (fun b o _ e n=>n) (fun b o hc e=>⟨o,k b o hc e⟩) (fun b xs e=>e) (fun b o u e=>e) (fun b ps e=>⟨#[],by simpa using e⟩) (fun m' hm=>?_) (fun b o q=>?_) I.bare
 ·obtain⟨o,es,ep,z,r⟩:=hm
  exact⟨o,es,ep,k _ _ lch z,r⟩
 ·refine(I.hok b o q).stay (fun c w' hc r=>k c w' ?_ r) (fun c e=>e) fun c xs e=>e
  intro z
  rcases hc with hc|hc
  ·rw [← hc,(hf c z).1] at q;cases q
  ·rw [(hf c z).1] at hc;cases hc
def Ite (K:PySem.W.Frag) (t:Addr) (dO:Int):It:=
 ⟨fun i H=>∃xs x,SqT K H t xs∧xs[i]?=some x,fun i H x H'=>∃T v,H T=none∧x=.ref T∧H'=upd H T (.tup [.int (dO+i),v])∧∀xs,SqT K H t xs→xs[i]?=some v,fun i H=>∃xs,SqT K H t xs∧xs.length≤i⟩
theorem AaC {P:Program} {w:World} {K:PySem.W.Frag} {elts:List Expr} {k1:Nat} {pos:Pos} {t e it:Addr} {dO:Int} (hne:e≠it):Turn P w K (.Tuple elts k1 pos) (Ite K t dO) [e,it] e (fun i h=>(∃old,IsEnum h e it (dO+i) old)∧IsTupIter h it t i) where
 mem:=by simp
 obj:=fun i h ⟨⟨old,he⟩,⟨o,ho,_,hd⟩⟩ b hb=>by
  rcases List.mem_cons.mp hb with rfl|hb
  ·exact⟨_,he,fun v z=>by cases z⟩
  ·have e1:b=it:=by simpa using hb
   subst e1
   exact⟨o,ho,fun v z=>by rw [hd] at z;cases z⟩
 keep:=fun i h h' ⟨⟨old,he⟩,⟨o,ho,r⟩⟩ k=>⟨⟨old,k e (by simp) _ he⟩,⟨o,k it (by simp) o ho,r⟩⟩
 item:=by
  intro X hP hw hK hc i pins s σ H E I hf st hg
  subst hP hw hK
  obtain⟨xs,x,hq,hx⟩:=hg
  obtain⟨its,rv,p,hz⟩:=I.tuple hq
  obtain⟨u,hu,ru⟩:=rv.get hx
  obtain⟨⟨old,he⟩,hit⟩:=st
  have hts:t≠it:=fun z=>by
   obtain⟨o1,z1,z2,_⟩:=hit
   obtain⟨o2,y1,y2,_⟩:=p
   rw [z,z1] at y1
   cases y1
   rw [z2] at y2
   injection y2 with y2
   exact absurd y2 (by decide)
  have hte:t≠e:=fun z=>by
   obtain⟨o2,y1,y2,_⟩:=p
   rw [z,he] at y1
   cases y1
   injection y2 with y2
   exact absurd y2 (by decide)
  have D:Draws X.prog X.w X.A.in1 it [it,t] its.toArray.size (fun i v=>its.toArray[i]?=some v) (fun i h=>IsTupIter h it t i∧IsTup h t its.toArray):=AbG (I.ok.hd hc) hts
  have hlt:i<its.toArray.size:=by
   have:=(List.getElem?_eq_some_iff.mp hu).1
   simpa using this
  refine AaS D he ⟨hit,p⟩ hlt hne (by simp [hne,hte.symm]) fun y h1 tk hy ho st1 hT hz1 kp=>⟨_,rfl,?_⟩
  have ey:y=u:=by
   have:its.toArray[i]?=some u:=by simpa using hu
   exact Option.some.inj (hy.symm.trans this)
  subst ey
  refine wpAny_letOwnedTupleGo_enum ho fun h2 he2 sb2=>?_
  have Tne:s.heap.objs.size≠e:=Nat.ne_of_gt (Heap.lt_size he)
  have T2:h2.get? s.heap.objs.size=some { cls:=Value.type "tuple",data:=Data.seq #[Value.int (dO+i) tk,y] }:=(sb2.2 _ Tne).trans hT
  have k2:∀b o,b ∉ [e,it]→s.heap.get? b=some o→h2.get? b=some o:=fun b o hb z=>by
   have h1':b≠e:=fun q=>hb (by simp [q])
   have h2':b≠it:=fun q=>hb (by simp [q])
   exact(sb2.2 b h1').trans (kp b o h1' h2' z)
  refine⟨.ref s.heap.objs.size,upd H s.heap.objs.size (.tup [.int (dO+i),x]),I.turnedL hf k2 (Nat.le_refl _) ⟨by show 2≤sizeLine;decide,[Value.int (dO+i) tk,y],.cons ⟨_,rfl⟩ (.cons ru .nil),⟨_,T2,rfl,_,rfl⟩⟩,rfl,⟨_,x,I.hok.fresh (Nat.le_refl _),rfl,rfl,fun ys hy'=>by rw [I.tuple_inj hy' hq];exact hx⟩,⟨⟨y,?_⟩,?_⟩,fun b hb=>?_⟩
  ·rw [show dO+((i+1:Nat):Int)=dO+i+1 by omega]
   exact he2
  ·obtain⟨o,z,r⟩:=st1.1
   exact⟨o,(sb2.2 it hne.symm).trans z,r⟩
  ·have lb:b<s.heap.objs.size:=by
    rcases List.mem_cons.mp hb with rfl|hb
    ·exact Heap.lt_size he
    ·have e1:b=it:=by simpa using hb
     subst e1
     obtain⟨o,z,_⟩:=hit
     exact Heap.lt_size z
   rw [aC (Nat.ne_of_lt lb)]
   exact(hf b hb).1
 done:=by
  intro X hP hw hK hc i pins s σ H E I hf st hg
  subst hP hw hK
  obtain⟨xs,hq,hx⟩:=hg
  obtain⟨its,rv,p,hz⟩:=I.tuple hq
  obtain⟨⟨old,he⟩,hit⟩:=st
  have hl:=rv.length
  exact rO (I.ok.hd hc) he hit p (by simp;omega) fun h' eb=>⟨rfl,I.turnedN (tk:=s.toks) hf fun b o hb z=>eb b o (fun q=>hb (by simp [q])) z⟩
 self:=fun _ _ _ _ _ ⟨⟨old,he⟩,_⟩ h=>wpAny_pyIter_enum he h
def iEnum (K:PySem.W.Frag) (ta td:TA):TI:=fun σ H R=>ta σ H fun xs H1=>td σ H1 fun ds H2=>∃(t:Addr) (d:Int),xs=[.ref t]∧ds=[.int d]∧Builtin.SmallTypes.fitsIndex d=true∧(∃ys,SqT K H2 t ys)∧R (Ite K t d) H2
theorem yV {x:Str} {p pos kpos tpos:Pos} {a b:Expr} {elts:List Expr} {k1:Nat} {ta td:TA} (hg:Gl X x) (hm:X.mg x=none) (hv:bootBuiltins x=some (.type "enumerate")) (ha:PA X [a] ta) (hd:PK X [⟨some "start",b,kpos⟩] td) (hn:x≠"__name__":=by decide) (hdb:(x == ("__debug__":Str))=false:=by decide)
  (hall:(backToKw pos (keywordEach [⟨some "start",b,kpos⟩] X.env)).all (·.1.isSome)=true:=by rfl) (hks:(backToKw pos (keywordEach [⟨some "start",b,kpos⟩] X.env)).filterMap (·.1)=[("start":Str)]:=by rfl)
  (he:starEach [a] X.env=(false,eval a X.env)::starEach [] X.env:=by rfl) (hpl:((backTo pos (starEach [a] X.env)).any (·.1) || (backToKw pos (keywordEach [⟨some "start",b,kpos⟩] X.env)).any (·.1.isNone))=false:=by rfl):
  PI X (.Tuple elts k1 tpos) (.Call (.Name x p) [a] [⟨some "start",b,kpos⟩] pos) (iEnum X.K ta td):=by
 intro pins s σ H R I h
 refine wpAny_Call_Name_kw (iZ I hg hm hv ?_ hn hdb)
 refine PySem.W.callWith_of (P:=fun g=>X.K.In g) hpl (fun _ _=>⟨.machine,.inr (.inl rfl),.now⟩) (PyProof.Rows.evalArgs_kw2 hall (thn (ha pos pins s σ H _ I h) fun us s1 ⟨vs,H1,I1,r,q⟩=>?_) he)
 refine thn (hd pos pins s1 σ H1 _ I1 q) fun ws s2 ⟨zs,H2,I2,rz,q2⟩=>⟨I2.kIn,?_⟩
 rw [hks]
 obtain⟨t,d,rfl,rfl,hf,⟨ys,hq⟩,q2⟩:=q2
 obtain⟨u,rfl,ru⟩:=r.one
 cases ru
 obtain⟨u',rfl,tk,rfl⟩:=rz.one
 obtain⟨its,rv,pt,hz⟩:=I2.tuple hq
 refine yB pt hf fun h' e1 e2 e3 e4=>?_
 refine wpAny_pyIter_enum e1 ?_
 have I3:Inv X pins σ H2 { s2 with heap:=h' }:=I2.kept (t':=s2.toks) e4
 refine⟨s2.heap.objs.size+1,[s2.heap.objs.size+1,s2.heap.objs.size],_,_,H2,rfl,I3,AaC (t:=t) (dO:=d) (Nat.succ_ne_self _),⟨⟨.none,by rw [show d+((0:Nat):Int)=d by omega];exact e1⟩,e2⟩,fun b hb=>?_,q2⟩
 rcases List.mem_cons.mp hb with rfl|hb
 ·exact I2.fpOk (Nat.le_succ _) (I2.hok.fresh (Nat.le_succ _))
 ·have e:b=s2.heap.objs.size:=by simpa using hb
  subst e
  exact I2.fpOk (Nat.le_refl _) (I2.hok.fresh (Nat.le_refl _))
end
end L2
namespace L2
open PySem PySem.Spec PyProof.Rows
section
variable {X:Cx}
end
end L2
namespace L2
open PySem PySem.Spec PyProof.Rows
section
variable {X:Cx}
end
end L2
namespace L2
open PySem PySem.Spec PyProof.Rows
section
variable {X:Cx}
end
end L2
namespace L2
open PySem PySem.Spec PyProof.Rows
section
variable {X:Cx} {NB:List Str} {n:Nat} {js:List Nat} {scope:Scope} {cl:List (Str × Addr)}
theorem yR {elt tg iter:Expr} {ifs:List Expr} {pos spos py:Pos} {y:Str} {ix:Nat} {wi:TI} {g:TG} {tc:TT} {te:TE} (hN:X.N.Nodup) (hiy:X.N[ix]?=some y) (hxy:Loc X.env.scope y) (hk:scope.kind=.function) (hcell:∀x ∈ scope.names,x.2≠.cell)
  (hnames:∀x ∈ scope.names,x.2=.local→scope.names.lookup x.1=some .local) (hc:X.calm=true) (T:iJ X NB n js scope cl) (hi:PI X tg iter wi)
  (hg:∀C s H fp pn,PG (X.blkF NB scope cl C s H fp pn) tg g) (ht:∀C s H fp pn,PTs (X.blkF NB scope cl C s H fp pn) ifs tc) (he:∀C s H fp pn,PE (X.blkF NB scope cl C s H fp pn) elt te)
  (hsw:swapsWith (.ListComp elt [⟨tg,iter,ifs,0⟩] scope pos) (some (.Name y py)) spos.line X.env=pure true:=by rfl)
  (hf:X.fn y=true∨X.env.scope.names.lookup y=some .local:=by first|exact .inl rfl|exact .inr rfl|assumption)
  (hs:∀x,foldedSetIterable iter X.env x=pure x:=by intro _;rfl):PS X (.Assign [.Name y py] (.ListComp elt [⟨tg,iter,ifs,0⟩] scope pos) spos) (tAsg (AbX n js wi g tc te) (dX ix)):=by
 intro pins s σ H D I h
 rw [exec_Assign_Name_used _ _ _ _ hsw]
 refine wpAny_bind (wpAny_standAt (wpAny_bind ?_))
 show wpAny _ X.A (do let _ ← comprehension (.ListComp elt [⟨tg,iter,ifs,0⟩] scope pos) scope X.env _ (newList []) false (eval iter X.env) (some (assign (.Name y py) X.env))) _ _ s
 refine wpAny_bind (wpAny_mono (wpAny_comprehension_free (use:=some (assign (.Name y py) X.env)) (Q:=fun _ s'=>SP X pins D .next s') rfl hs T.clo hk hnames (thn (hi pins s σ H _ I h) fun v s1 h1=>thn h1 fun itv s2 h2=>?_)) (fun _ s' hq=>wpAny_pure (wpAny_pure hq)) fun _ _ e=>e)
 obtain⟨it,fp,tn,J,H2,rfl,I2,U,st2,f2,h2⟩:=h2
 have lt2:∀b ∈ fp,b<s2.heap.objs.size:=fun b hb=>by
  obtain⟨o,q,_⟩:=U.obj 0 _ st2 b hb
  exact Heap.lt_size q
 refine wpAny_newObj_type ?_
 have hz:H2 s2.heap.objs.size=none:=I2.hok.fresh (Nat.le_refl _)
 obtain⟨W,⟨m0,w0⟩,turn⟩:=h2 s2.heap.objs.size hz
 have I3:Inv X pins σ (upd H2 s2.heap.objs.size (.lst [])) { s2 with heap:=s2.heap.push { cls:=.type "list",dict:=none,data:=.seq ([]:List Value).toArray } }:=
  I2.laid (t':=s2.toks) (fun b o q=>Heap.get?_push_of_some _ q) (Nat.le_refl _) ⟨Nat.zero_le _,[],0,.nil,Heap.get?_push_size _ rfl⟩
 generalize hs3:({ s2 with heap:=s2.heap.push { cls:=.type "list",dict:=none,data:=.seq ([]:List Value).toArray } }:Shared)=s3 at I3 ⊢
 have ups3:∀b o,s2.heap.get? b=some o→s3.heap.get? b=some o:=fun b o q=>by rw [← hs3];exact Heap.get?_push_of_some _ q
 have f3:∀b ∈ fp,iN X pins (upd H2 s2.heap.objs.size (.lst [])) b:=fun b hb=>⟨by rw [aC (Nat.ne_of_lt (lt2 b hb))];exact(f2 b hb).1,(f2 b hb).2⟩
 have lt3:∀b ∈ fp,b<s3.heap.objs.size:=fun b hb=>by
  obtain⟨o,q,_⟩:=U.obj 0 _ st2 b hb
  exact Heap.lt_size (ups3 b o q)
 refine wpAny_newFunctionEnv hcell (by intro y hy;simp at hy) (fun h4 hn4 hs4=>?_) hk
 have keep4:∀b o,s3.heap.get? b=some o→h4.get? b=some o:=fun b o q=>(hs4.2 b (Nat.ne_of_lt (Heap.lt_size q))).trans (Heap.get?_push_of_some _ q)
 have I4:=wO (tk:=s3.toks+([]:List (Str × Value)).length) I3 hk T f3 lt3 hn4 keep4
 have st4:tn 0 h4:=U.keep _ _ _ st2 fun b hb o q=>keep4 b o (ups3 b o q)
 have fpY:∀{H':Hp},(∀b ∈ fp,H' b=none)→∀b ∈ fp,iN (X.blkF NB scope cl s3.heap.objs.size s3 (upd H2 s2.heap.objs.size (.lst [])) fp (X.pn++pins)) [] H' b:=fun hn b hb=>by
  obtain⟨g0,g1,g2,g3,g4,g5⟩:=f3 b hb
  exact⟨hn b hb,Nat.ne_of_lt (lt3 b hb),fun z=>(List.mem_cons.mp (I3.stkSub b z)).elim g1 g2,.inl hb,fun x c q=>g4 x c (T.sub x c q),fun p hp=>g5 p (by simpa using hp)⟩
 have loop:∀s5:Shared,s5={ s3 with heap:=h4,toks:=s3.toks+([]:List (Str × Value)).length }→codeAny (model X.prog X.w) X.A (.compLoop (.ListComp elt [⟨tg,iter,ifs,0⟩] scope pos) 0 (.ref it) (.ref s2.heap.objs.size) (compEnvC scope cl s3.heap.objs.size X.env))
   (compPost (model X.prog X.w) X.A X.xe (some (assign (.Name y py) X.env)) (fun _ s'=>SP X pins D .next s') (.ref s2.heap.objs.size) s3.heap.objs.size) s5:=by
  rintro s5 rfl
  refine codeAny_loop rfl (fun k s'=>∃i ys H',Inv (X.blkF NB scope cl s3.heap.objs.size s3 (upd H2 s2.heap.objs.size (.lst [])) fp (X.pn++pins)) [] (iF n js σ) H' s'∧tn i s'.heap∧(∀b ∈ fp,H' b=none)∧W i k ys H')
   (fun k s6 hI=>?_) m0 ⟨0,[],_,I4,st4,fun b hb=>(f3 b hb).1,w0⟩
  obtain⟨i,ys,H6,I6,st6,fr6,w6⟩:=hI
  show wpAny _ _ ((compTurn (.ListComp elt [⟨tg,iter,ifs,0⟩] scope pos) 0 (.ref it) (.ref s2.heap.objs.size) (compEnvC scope cl s3.heap.objs.size X.env)).onRaise (fun x=>do noteFrame x (compEnvC scope cl s3.heap.objs.size X.env);theTreesLotGoes x)) _ _ s6
  refine wpAny_noted ?_
  rw [compTurn_list]
  refine wpAny_bind (wpAny_standAt (wpAny_bind ?_))
  obtain⟨hacc,alt⟩:=turn i k ys H6 w6
  rcases alt with ⟨stop,q⟩|⟨go,step⟩
  ·refine thn (U.done (X.blkF NB scope cl s3.heap.objs.size s3 (upd H2 s2.heap.objs.size (.lst [])) fp (X.pn++pins)) rfl rfl rfl hc i [] s6 _ H6 _ I6 (fpY fr6) st6 stop) fun r s7 ⟨hr,I7⟩=>?_
   subst hr
   obtain⟨m,hm,_⟩:=I7.loc
   have I7X:Inv X pins σ H6 s7:=tH (h2:=s7.heap) I3 f3 lt3 I7 ⟨rfl,fun _ _=>rfl⟩
   have H6C:H6 s3.heap.objs.size=none:=I7.free
   have fpC:=I3.fpOk (H':=H6) (Nat.le_refl _) H6C
   refine wpAny_pure ?_
   show wpAny _ _ (assign (.Name y py) X.env (.ref s2.heap.objs.size)) _ _ _
   refine wpAny_assign_Name (rZ I7X hN hiy hxy (v:=.ref s2.heap.objs.size) rfl (fun s8 I8 hsame=>?_) hf)
   obtain⟨a,hsa,ha⟩:=hsame
   have neC:s3.heap.objs.size≠a:=by
    rcases ha with rfl|ha
    ·exact fpC.2.1
    ·exact fun z=>fpC.2.2.2.2.1 _ _ ha z.symm
   refine⟨m,hm.sameBut hsa neC,fun h9 hsb=>⟨_,H6,?_,q⟩⟩
   refine I8.call' (s':={ s8 with heap:=h9 }) (ch:=[s3.heap.objs.size]) rfl ⟨fun b o q n hb he=>(hsb.2 b (fun z=>he (by simp [z]))).trans q,fun b o q n hb he=>⟨o.slots,(hsb.2 b (fun z=>he (by simp [z]))).trans q⟩,fun _ _ _ n _=>n,fun b o q he=>⟨o,(hsb.2 b (fun z=>he (by simp [z]))).trans q⟩,fun _ _ q=>q,fun _ _ _ q=>q,fun _ ps q=>⟨#[],by rw [q];simp⟩⟩ (fun b o q=>?_) I8.bare fun b hb=>?_
   ·refine(I8.hok b o q).stay (fun c w' hc r=>(hsb.2 c ?_).trans r) (fun _ r=>r) fun _ _ r=>r
    rintro rfl
    rcases hc with rfl|hc
    ·rw [H6C] at q;cases q
    ·rw [H6C] at hc;cases hc
   ·have e:b=s3.heap.objs.size:=by simpa using hb
    subst e
    exact⟨fpC.2.2.2.1,fpC.2.1,fpC.2.2.2.2.1,fpC.2.2.2.2.2⟩
  ·refine thn (U.item (X.blkF NB scope cl s3.heap.objs.size s3 (upd H2 s2.heap.objs.size (.lst [])) fp (X.pn++pins)) rfl rfl rfl hc i [] s6 _ H6 _ I6 (fpY fr6) st6 go) fun r s7 ⟨u,hr,h7⟩=>?_
   subst hr
   refine wpAny_bind (thn h7 fun _ s8 ⟨x,H8,I8,r8,y8,st8,fr8⟩=>?_)
   have I8':=I8.pinned (fpY fr8) (U.obj _ _ st8)
   have gp:∀{σ9:St} {H9:Hp} {s9:Shared},Inv (X.blkF NB scope cl s3.heap.objs.size s3 (upd H2 s2.heap.objs.size (.lst [])) fp (X.pn++pins)) ([]++eQ fp s8.heap) σ9 H9 s9→tn (i+1) s9.heap∧∀b ∈ fp,H9 b=none:=fun I9=>
    ⟨U.keep _ _ _ st8 fun b hb o e=>(I9.pin (b,o) (List.mem_append_right _ (List.mem_append_right _ (dZ hb e)))).1,fun b hb=>by
     obtain⟨o,e,d⟩:=U.obj _ _ st8 b hb
     exact(I9.pin (b,o) (List.mem_append_right _ (List.mem_append_right _ (dZ hb e)))).2.1⟩
   have wk:∀{σ9:St} {H9:Hp} {s9:Shared},σ9.drop n=(iF n js σ).drop n→Inv (X.blkF NB scope cl s3.heap.objs.size s3 (upd H2 s2.heap.objs.size (.lst [])) fp (X.pn++pins)) ([]++eQ fp s8.heap) σ9 H9 s9→Inv (X.blkF NB scope cl s3.heap.objs.size s3 (upd H2 s2.heap.objs.size (.lst [])) fp (X.pn++pins)) [] (iF n js σ) H9 s9:=fun {σ9 H9 s9} hd I9=>
    I9.unpinned.weak (by rw [nY T,I9.len]) fun k v z=>by
     obtain⟨k',j,rfl,_,_⟩:=rF z
     have e:=congrArg (fun l=>l[k']?) hd
     simp only [List.getElem?_drop] at e
     rw [e]
     exact z
   refine wpAny_bind (wpAny_mono (hg _ _ _ _ _ _ s8 _ H8 x u _ I8' r8 (step x H8 y8)) (fun _ s9 hq=>?_) fun _ _ z=>z.elim)
   obtain⟨σ9,H9,I9,hd9,q9⟩:=hq
   refine wpAny_bind (wpAny_mono (ht _ _ _ _ _ _ s9 σ9 H9 _ I9 q9) (fun ok s10 hq=>?_) fun _ _ z=>z.elim)
   obtain⟨H10,I10,q10⟩:=hq
   cases ok with
   | false=>
    rw [if_neg (by simp)] at q10
    obtain⟨m',hm',w10⟩:=q10
    exact wpAny_pure ⟨rfl,m',hm',i+1,ys,H10,wk hd9 I10,(gp I10).1,(gp I10).2,w10⟩
   | true=>
    rw [if_pos rfl] at q10
    refine wpAny_bind (wpAny_bind (wpAny_mono (he _ _ _ _ _ _ s10 σ9 H10 _ I10 q10) (fun y s11 hq=>?_) fun _ _ z=>z.elim))
    obtain⟨yv,H11,I11,ry,ha11,hl11,m',hm',w11⟩:=hq
    have mt:=dN (X:=X.blkF NB scope cl s3.heap.objs.size s3 (upd H2 s2.heap.objs.size (.lst [])) fp (X.pn++pins)) ([]++eQ fp s8.heap) s11 σ9 H11 (.ref s2.heap.objs.size) [yv] (.ref s2.heap.objs.size) [y] (fun _ H'=>W (i+1) m' (ys++[yv]) H') I11 rfl (.cons ry .nil) ⟨_,ys,yv,rfl,rfl,ha11,hl11,w11⟩
    refine wpAny_bind (wpAny_mono mt (fun _ s12 hq=>?_) fun _ _ z=>z.elim)
    obtain⟨v12,H12,I12,_,w12⟩:=hq
    exact wpAny_pure (wpAny_pure ⟨rfl,m',hm',i+1,_,H12,wk hd9 I12,(gp I12).1,(gp I12).2,w12⟩)
 exact codeAny_compStart_list (loop _ rfl) (U.self _ 0 _ _ _ st4 (loop _ rfl))
end
end L2
namespace L2
open PySem PySem.Spec PyProof.Rows PySem.W
theorem gT {α β:Type} {F:α→β→Prop}:∀{xs:List α} {ys:List β},xs.length=ys.length→(∀(j:Nat) x y,xs[j]?=some x→ys[j]?=some y→F x y)→Paired F xs ys
 | [],[],_,_=>.nil
 | [],_::_,h,_=>by simp at h
 | _::_,[],h,_=>by simp at h
 | a::xs,b::ys,h,f=>.cons (f 0 a b rfl rfl) (gT (by simpa using h) fun j x y e1 e2=>f (j+1) x y (by simpa using e1) (by simpa using e2))
section
variable {X:Cx}
def rngV (lo:Int) (n:Nat):List V:=(List.range n).map fun(k:Nat)=>V.int (lo+(k:Int))
theorem vH (lo:Int) (n:Nat):(rngV lo n).length=n:=by
 unfold rngV
 rw [List.length_map,List.length_range]
def rListR:List V→Hp→VK→Prop:=fun xs H Q=>∃(p:Addr) (lo hi:Int),xs=[.ref p]∧H p=some (.rng lo hi)∧(-(2 ^ 62)≤lo∧lo<2 ^ 62∧-(2 ^ 62)≤hi∧hi<2 ^ 62)∧hi-lo≤1000∧∀l,H l=none→Q (.ref l) (upd H l (.lst (rngV lo (hi-lo).toNat)))
theorem yA (hc:X.calm=true):gP X (.type "list") rListR:=by
 intro pins s σ H xs us Q I r h
 obtain⟨p,lo,hi,rfl,hp,⟨b1,b2,b3,b4⟩,b5,q⟩:=h
 obtain⟨u,rfl,rx⟩:=jV r
 cases rx
 obtain⟨t,t',t'',e⟩:=(show cE X.prog X.w H s.heap p (.rng lo hi) from I.hok p _ hp)
 have hn:Builtin.Range.rangeSize lo hi 1=(((hi-lo).toNat:Nat):Int):=by rw [rangeSize_one];split <;> omega
 refine call_list_range (I.ok.hd hc) e (small_one b1 b2 b3 b4) hn (by omega) fun h' tk acc' c' kp e' ⟨hs,hv⟩=>?_
 refine⟨.ref s.heap.objs.size,_,I.laid (o:=.lst (rngV lo (hi-lo).toNat)) (t':=tk) kp (Nat.le_refl _) ?_,rfl,q _ (I.hok.fresh (Nat.le_refl _))⟩
 have sl:sizeLine=16777216:=sizeLine_eq
 refine⟨by rw [vH];omega,acc'.toList,c',?_,by simpa using e'⟩
 refine gT (by rw [vH];simp [hs]) fun j x y hx hy=>?_
 unfold rngV at hx
 rw [List.getElem?_map] at hx
 have hj:j<(hi-lo).toNat:=by
  have:=(List.getElem?_eq_some_iff.mp hy).1
  simp only [Array.length_toList] at this
  omega
 rw [List.getElem?_range hj] at hx
 cases hx
 obtain⟨tk,rfl⟩:=hv j y (by simpa using hy)
 exact⟨tk,by rw [Int.mul_one]⟩
end
end L2
namespace L2
open PySem PySem.Spec PyProof.Rows PySem.W
section
variable {X:Cx}
theorem vI:∀{cs:List Addr} {us:List Value},cB (cs.map V.ref) us→us=cs.map Value.ref
 | [],_,.nil=>rfl
 | c::cs,_,.cons r t=>by
  cases r
  rw [vI t]
  rfl
end
end L2
namespace L2
open PySem PySem.Spec PyProof.Rows PySem.W Builtin
section
variable {K:Frag} {x C:Addr} {prog:Program} {w:World} {A:Around} {E:Value→Shared→Prop} {s:Shared}
end
section
variable {X:Cx}
end
end L2
namespace Lm
abbrev Ps:=List (Int × Int)
def mem (ps:Ps) (x:Int):Prop:=∃p ∈ ps,p.1≤x∧x<p.2
theorem mem_nil {x:Int}:mem [] x↔False:=by simp [mem]
theorem mem_cons {p:Int × Int} {t:Ps} {x:Int}:mem (p::t) x↔(p.1≤x∧x<p.2)∨mem t x:=by simp [mem]
theorem zB {s t:Ps} {x:Int}:mem (s++t) x↔mem s x∨mem t x:=by
 induction s with
 | nil=>simp [mem_nil]
 | cons p s ih=>rw [List.cons_append,mem_cons,mem_cons,ih,or_assoc]
def Wk:Ps→Prop
 | []=>True
 | p::t=>p.1<p.2∧(∀q ∈ t,p.2≤q.1)∧Wk t
def Sh:Ps→Prop
 | []=>True
 | p::t=>p.1<p.2∧(∀q ∈ t,p.2<q.1)∧Sh t
theorem Sh.wk:∀{t:Ps},Sh t→Wk t
 | [],_=>trivial
 | _::_,⟨h1,h2,h3⟩=>⟨h1,fun q hq=>Int.le_of_lt (h2 q hq),Sh.wk h3⟩
theorem Sh.lt:∀{t:Ps},Sh t→∀q ∈ t,q.1<q.2
 | _::_,⟨h1,h2,h3⟩,q,hq=>by
  rcases List.mem_cons.mp hq with rfl|hq
  ·exact h1
  ·exact Sh.lt h3 q hq
theorem Wk.lt:∀{t:Ps},Wk t→∀q ∈ t,q.1<q.2
 | _::_,⟨h1,h2,h3⟩,q,hq=>by
  rcases List.mem_cons.mp hq with rfl|hq
  ·exact h1
  ·exact Wk.lt h3 q hq
theorem qP {t:Ps} {b x:Int} (h:∀q ∈ t,b≤q.1) (hx:mem t x):b≤x:=by
 obtain⟨p,hp,z,_⟩:=hx
 have:=h p hp
 omega
theorem pW {p:Int × Int} {t:Ps} (h:Sh (p::t)) {x:Int} (hx:mem (p::t) x):p.1≤x:=by
 rcases mem_cons.mp hx with z|z
 ·exact z.1
 ·have:=qP (b:=p.2) (fun q hq=>Int.le_of_lt (h.2.1 q hq)) z
  have:=h.1
  omega
theorem yL {p:Int × Int} {t:Ps} (h:Sh (p::t)) {x:Int}:mem t x↔mem (p::t) x∧p.2≤x:=by
 constructor
 ·intro z
  exact⟨mem_cons.mpr (.inr z),qP (fun q hq=>Int.le_of_lt (h.2.1 q hq)) z⟩
 ·rintro⟨z,w⟩
  rcases mem_cons.mp z with z|z
  ·omega
  ·exact z
theorem AcA {p:Int × Int} {t:Ps} (h:Sh (p::t)):¬ mem (p::t) p.2:=by
 intro z
 rcases mem_cons.mp z with z|z
 ·omega
 ·obtain⟨q,hq,z1,_⟩:=z
  have:=h.2.1 q hq
  omega
theorem sh_same:∀{s t:Ps},Sh s→Sh t→(∀x,mem s x↔mem t x)→s=t
 | [],[],_,_,_=>rfl
 | [],q::t,_,ht,e=>by
  have:=(e q.1).mpr (mem_cons.mpr (.inl ⟨Int.le_refl _,ht.1⟩))
  exact(mem_nil.mp this).elim
 | p::s,[],hs,_,e=>by
  have:=(e p.1).mp (mem_cons.mpr (.inl ⟨Int.le_refl _,hs.1⟩))
  exact(mem_nil.mp this).elim
 | p::s,q::t,hs,ht,e=>by
  have l1:q.1≤p.1:=pW ht ((e p.1).mp (mem_cons.mpr (.inl ⟨Int.le_refl _,hs.1⟩)))
  have l2:p.1≤q.1:=pW hs ((e q.1).mpr (mem_cons.mpr (.inl ⟨Int.le_refl _,ht.1⟩)))
  have h1:¬ p.2<q.2:=fun z=>AcA hs ((e p.2).mpr (mem_cons.mpr (.inl ⟨by have:=hs.1;omega,z⟩)))
  have h2:¬ q.2<p.2:=fun z=>AcA ht ((e q.2).mp (mem_cons.mpr (.inl ⟨by have:=ht.1;omega,z⟩)))
  have pq:p=q:=by
   apply Prod.ext
   ·omega
   ·omega
  subst pq
  have:s=t:=sh_same hs.2.2 ht.2.2 fun x=>by rw [yL hs,yL ht,e x]
  rw [this]
theorem xD:∀{s t:Ps},Sh s→Sh t→(∀p ∈ s,∀q ∈ t,p.2<q.1)→Sh (s++t)
 | [],_,_,ht,_=>ht
 | p::s,t,hs,ht,h=>by
  refine⟨hs.1,fun q hq=>?_,xD hs.2.2 ht fun a ha b hb=>h a (List.mem_cons_of_mem _ ha) b hb⟩
  rcases List.mem_append.mp hq with hq|hq
  ·exact hs.2.1 q hq
  ·exact h p (List.mem_cons_self ..) q hq
def mg:Int × Int→Ps→Ps
 | c,[]=>[c]
 | c,p::t=>if p.1≤c.2 then mg (c.1,if p.2 > c.2 then p.2 else c.2) t else c::mg p t
def merged:Ps→Ps
 | []=>[]
 | p::t=>mg p t
def Lo:Ps→Prop
 | []=>True
 | p::t=>p.1<p.2∧(∀q ∈ t,p.1≤q.1)∧Lo t
theorem Wk.lo:∀{t:Ps},Wk t→Lo t
 | [],_=>trivial
 | _::_,⟨h1,h2,h3⟩=>⟨h1,fun q hq=>by have:=h2 q hq;omega,Wk.lo h3⟩
theorem mg_ok:∀{t:Ps} {c:Int × Int},c.1<c.2→(∀q ∈ t,c.1≤q.1)→Lo t→Sh (mg c t)∧(∀p ∈ mg c t,c.1≤p.1)∧(∀x,mem (mg c t) x↔(c.1≤x∧x<c.2)∨mem t x)∧(mg c t).length≤t.length+1
 | [],c,h,_,_=>by
  refine⟨⟨h,by simp,trivial⟩,fun p hp=>?_,fun x=>?_,Nat.le_refl _⟩
  ·rw [List.mem_singleton.mp hp]
   exact Int.le_refl _
  ·show mem [c] x↔_
   rw [mem_cons]
 | p::t,c,h,hq,hl=>by
  have hp:=hq p (List.mem_cons_self ..)
  have hpp:=hl.1
  by_cases z:p.1≤c.2
  ·have e:mg c (p::t)=mg (c.1,if p.2 > c.2 then p.2 else c.2) t:=by
    show (if p.1≤c.2 then _ else _)=_
    rw [if_pos z]
   rw [e]
   have hm:c.1<(if p.2 > c.2 then p.2 else c.2):=by split <;> omega
   obtain⟨i1,i2,i3,i4⟩:=mg_ok (t:=t) (c:=(c.1,if p.2 > c.2 then p.2 else c.2)) hm (fun q hq'=>by have:=hl.2.1 q hq';show c.1≤q.1;omega) hl.2.2
   refine⟨i1,i2,fun x=>?_,by rw [List.length_cons];omega⟩
   rw [i3 x,mem_cons]
   show (c.1≤x∧x<(if p.2 > c.2 then p.2 else c.2))∨mem t x↔_
   by_cases m:mem t x
   ·simp [m]
   ·simp only [m,or_false]
    split <;> omega
  ·have e:mg c (p::t)=c::mg p t:=by
    show (if p.1≤c.2 then _ else _)=_
    rw [if_neg z]
   rw [e]
   obtain⟨i1,i2,i3,i4⟩:=mg_ok (t:=t) (c:=p) hpp hl.2.1 hl.2.2
   refine⟨⟨h,fun q hq'=>by have:=i2 q hq';omega,i1⟩,fun q hq'=>?_,fun x=>?_,by rw [List.length_cons,List.length_cons];omega⟩
   ·rcases List.mem_cons.mp hq' with rfl|hq'
    ·exact Int.le_refl _
    ·have:=i2 q hq'
     omega
   ·rw [mem_cons,mem_cons,i3 x]
theorem merged_ok:∀{t:Ps},Lo t→Sh (merged t)∧(∀x,mem (merged t) x↔mem t x)∧(merged t).length≤t.length
 | [],_=>⟨trivial,fun x=>Iff.rfl,Nat.le_refl _⟩
 | p::t,h=>by
  obtain⟨i1,i2,i3,i4⟩:=mg_ok h.1 h.2.1 h.2.2
  exact⟨i1,fun x=>by rw [show merged (p::t)=mg p t from rfl,i3 x,mem_cons],i4⟩
def cut (at_ high:Int):Ps→Ps
 | []=>if at_<high then [(at_,high)] else []
 | g::gs=>if g.1<high then(if at_<g.1 then [(at_,g.1)] else [])++cut g.2 high gs else if at_<high then [(at_,high)] else []
def skip (low:Int):Ps→Ps
 | []=>[]
 | g::gs=>if g.2≤low then skip low gs else g::gs
def wo:Ps→Ps→Ps
 | [],_=>[]
 | p::t,gs=>cut p.1 p.2 (skip p.1 gs)++wo t (skip p.1 gs)
theorem qK {a b:Int}:Sh (if a<b then [(a,b)] else [])∧(∀p ∈ (if a<b then [(a,b)] else []),a≤p.1∧p.2≤b)∧(∀x,mem (if a<b then [(a,b)] else []) x↔a≤x∧x<b)∧(if a<b then [(a,b)] else([]:Ps)).length≤1:=by
 by_cases h:a<b
 ·rw [if_pos h]
  refine⟨⟨h,by simp,trivial⟩,fun p hp=>?_,fun x=>?_,Nat.le_refl _⟩
  ·rw [List.mem_singleton.mp hp]
   exact⟨Int.le_refl _,Int.le_refl _⟩
  ·rw [mem_cons,mem_nil,or_false]
 ·rw [if_neg h]
  refine⟨trivial,by simp,fun x=>?_,Nat.zero_le _⟩
  rw [mem_nil]
  exact⟨False.elim,fun z=>by omega⟩
theorem AeI:∀{gs:Ps} {a b:Int},Sh gs→(∀g ∈ gs,a<g.2)→Sh (cut a b gs)∧(∀p ∈ cut a b gs,a≤p.1∧p.2≤b)∧(∀x,mem (cut a b gs) x↔(a≤x∧x<b)∧¬ mem gs x)∧(cut a b gs).length≤gs.length+1
 | [],a,b,_,_=>by
  obtain⟨i1,i2,i3,i4⟩:=qK (a:=a) (b:=b)
  exact⟨i1,i2,fun x=>by rw [show cut a b []=(if a<b then [(a,b)] else []) from rfl,i3 x,mem_nil];simp,i4⟩
 | g::gs,a,b,hs,hg=>by
  have h1:=hs.1
  have h2:=hg g (List.mem_cons_self ..)
  by_cases z:g.1<b
  ·have e:cut a b (g::gs)=(if a<g.1 then [(a,g.1)] else [])++cut g.2 b gs:=by
    show (if g.1<b then _ else _)=_
    rw [if_pos z]
   rw [e]
   obtain⟨i1,i2,i3,i4⟩:=qK (a:=a) (b:=g.1)
   obtain⟨j1,j2,j3,j4⟩:=AeI (gs:=gs) (a:=g.2) (b:=b) hs.2.2 fun q hq=>by
    have:=hs.2.1 q hq
    have:=Sh.lt hs.2.2 q hq
    omega
   refine⟨xD i1 j1 fun p hp q hq=>?_,fun p hp=>?_,fun x=>?_,?_⟩
   ·have:=(i2 p hp).2
    have:=(j2 q hq).1
    omega
   ·rcases List.mem_append.mp hp with hp|hp
    ·have:=i2 p hp
     exact⟨this.1,by omega⟩
    ·have:=j2 p hp
     exact⟨by omega,this.2⟩
   ·rw [zB,i3 x,j3 x,mem_cons]
    have ge:mem gs x→g.2≤x:=fun m=>qP (fun q hq=>Int.le_of_lt (hs.2.1 q hq)) m
    by_cases m:mem gs x
    ·have:=ge m
     simp only [m,not_true_eq_false,and_false,or_false,or_true,iff_false,false_and]
     omega
    ·simp only [m,not_false_eq_true,and_true,or_false]
     omega
   ·rw [List.length_append,List.length_cons]
    omega
  ·have e:cut a b (g::gs)=if a<b then [(a,b)] else []:=by
    show (if g.1<b then _ else _)=_
    rw [if_neg z]
   rw [e]
   obtain⟨i1,i2,i3,i4⟩:=qK (a:=a) (b:=b)
   refine⟨i1,i2,fun x=>?_,by rw [List.length_cons];omega⟩
   rw [i3 x]
   have ge:mem (g::gs) x→g.1≤x:=fun m=>pW hs m
   constructor
   ·intro h
    exact⟨h,fun m=>by have:=ge m;omega⟩
   ·exact fun h=>h.1
theorem uE:∀{gs:Ps} {a:Int},Sh gs→Sh (skip a gs)∧(∀g ∈ skip a gs,a<g.2)∧(∀x,a≤x→(mem (skip a gs) x↔mem gs x))∧(skip a gs).length≤gs.length
 | [],a,_=>⟨trivial,by simp [skip],fun x _=>Iff.rfl,Nat.le_refl _⟩
 | g::gs,a,hs=>by
  by_cases z:g.2≤a
  ·have e:skip a (g::gs)=skip a gs:=by
    show (if g.2≤a then _ else _)=_
    rw [if_pos z]
   rw [e]
   obtain⟨i1,i2,i3,i4⟩:=uE (gs:=gs) (a:=a) hs.2.2
   refine⟨i1,i2,fun x hx=>?_,by rw [List.length_cons];omega⟩
   rw [i3 x hx,mem_cons]
   constructor
   ·exact .inr
   ·rintro(h|h)
    ·omega
    ·exact h
  ·have e:skip a (g::gs)=g::gs:=by
    show (if g.2≤a then _ else _)=_
    rw [if_neg z]
   rw [e]
   refine⟨hs,fun q hq=>?_,fun x _=>Iff.rfl,Nat.le_refl _⟩
   rcases List.mem_cons.mp hq with rfl|hq
   ·omega
   ·have:=hs.2.1 q hq
    have:=Sh.lt hs.2.2 q hq
    omega
theorem wo_ok:∀{ks gs:Ps},Sh ks→Sh gs→Sh (wo ks gs)∧(∀p ∈ wo ks gs,∃k ∈ ks,k.1≤p.1)∧(∀x,mem (wo ks gs) x↔mem ks x∧¬ mem gs x)
 | [],gs,_,_=>⟨trivial,by simp [wo],fun x=>by rw [show wo [] gs=[] from rfl,mem_nil];simp⟩
 | p::t,gs,hk,hg=>by
  obtain⟨s1,s2,s3,s4⟩:=uE (a:=p.1) hg
  obtain⟨i1,i2,i3,i4⟩:=AeI (b:=p.2) s1 s2
  obtain⟨j1,j2,j3⟩:=wo_ok (ks:=t) (gs:=skip p.1 gs) hk.2.2 s1
  have far:∀q ∈ wo t (skip p.1 gs),p.2<q.1:=fun q hq=>by
   obtain⟨k,hk',z⟩:=j2 q hq
   have:=hk.2.1 k hk'
   omega
  refine⟨xD i1 j1 fun a ha q hq=>?_,fun q hq=>?_,fun x=>?_⟩
  ·have:=(i2 a ha).2
   have:=far q hq
   omega
  ·rcases List.mem_append.mp hq with hq|hq
   ·exact⟨p,List.mem_cons_self ..,(i2 q hq).1⟩
   ·obtain⟨k,hk',z⟩:=j2 q hq
    exact⟨k,List.mem_cons_of_mem _ hk',z⟩
  ·show mem (cut p.1 p.2 (skip p.1 gs)++wo t (skip p.1 gs)) x↔_
   rw [zB,i3 x,j3 x,mem_cons]
   have ge:mem t x→p.2≤x:=fun m=>qP (fun q hq=>Int.le_of_lt (hk.2.1 q hq)) m
   have h1:=hk.1
   by_cases hx:p.1≤x
   ·rw [s3 x hx]
    constructor
    ·rintro(⟨a,b⟩|⟨a,b⟩)
     ·exact⟨.inl a,b⟩
     ·exact⟨.inr a,b⟩
    ·rintro⟨a|a,b⟩
     ·exact .inl ⟨a,b⟩
     ·exact .inr ⟨a,b⟩
   ·constructor
    ·rintro(⟨a,b⟩|⟨a,b⟩)
     ·omega
     ·have:=ge a
      omega
    ·rintro⟨a|a,b⟩
     ·omega
     ·have:=ge a
      omega
theorem vF (f:Int × Int→Bool) (a:Int):∀gs:Ps,(skip a gs).countP f≤gs.countP f
 | []=>Nat.le_refl _
 | g::gs=>by
  show (if g.2≤a then skip a gs else g::gs).countP f≤_
  split
  ·have:=vF f a gs
   rw [List.countP_cons]
   omega
  ·exact Nat.le_refl _
theorem zQ:∀{gs:Ps} {a b:Int},Sh gs→(∀g ∈ gs,a<g.2)→(cut a b gs).length≤1+gs.countP fun g=>decide (a<g.1∧g.1<b)
 | [],a,b,_,_=>by
  have:=(qK (a:=a) (b:=b)).2.2.2
  show (if a<b then [(a,b)] else([]:Ps)).length≤_
  omega
 | g::gs,a,b,hs,hg=>by
  have h1:=hs.1
  have h2:=hg g (List.mem_cons_self ..)
  rw [List.countP_cons]
  by_cases z:g.1<b
  ·have e:cut a b (g::gs)=(if a<g.1 then [(a,g.1)] else [])++cut g.2 b gs:=by
    show (if g.1<b then _ else _)=_
    rw [if_pos z]
   rw [e,List.length_append]
   have i:=zQ (gs:=gs) (a:=g.2) (b:=b) hs.2.2 fun q hq=>by
    have:=hs.2.1 q hq
    have:=Sh.lt hs.2.2 q hq
    omega
   have m:(gs.countP fun q=>decide (g.2<q.1∧q.1<b))≤gs.countP fun q=>decide (a<q.1∧q.1<b):=List.countP_mono_left fun q hq hz=>by
    have:=of_decide_eq_true hz
    exact decide_eq_true ⟨by omega,this.2⟩
   by_cases y:a<g.1
   ·rw [if_pos y,decide_eq_true (show a<g.1∧g.1<b from⟨y,z⟩)]
    show 1+_≤1+(_+1)
    omega
   ·rw [if_neg y]
    show 0+_≤_
    omega
  ·have e:cut a b (g::gs)=if a<b then [(a,b)] else []:=by
    show (if g.1<b then _ else _)=_
    rw [if_neg z]
   rw [e]
   have:=(qK (a:=a) (b:=b)).2.2.2
   omega
theorem zR {α:Type} (f g h:α→Bool) (d:∀x,f x=true→g x=true→False) (e:∀x,f x=true∨g x=true→h x=true):∀l:List α,l.countP f+l.countP g≤l.countP h
 | []=>Nat.le_refl _
 | x::l=>by
  have:=zR f g h d e l
  rw [List.countP_cons,List.countP_cons,List.countP_cons]
  by_cases a:f x=true
  ·by_cases b:g x=true
   ·exact(d x a b).elim
   ·rw [if_pos a,if_neg b,if_pos (e x (.inl a))]
    omega
  ·by_cases b:g x=true
   ·rw [if_neg a,if_pos b,if_pos (e x (.inr b))]
    omega
   ·rw [if_neg a,if_neg b]
    omega
theorem AbQ:∀{ks gs:Ps} {L:Int},Sh ks→Sh gs→(∀k ∈ ks,L≤k.1)→(wo ks gs).length≤ks.length+gs.countP fun g=>decide (L<g.1)
 | [],gs,L,_,_,_=>Nat.zero_le _
 | p::t,gs,L,hk,hg,hL=>by
  obtain⟨s1,s2,s3,s4⟩:=uE (a:=p.1) hg
  have i:=zQ (b:=p.2) s1 s2
  have j:=AbQ (ks:=t) (gs:=skip p.1 gs) (L:=p.2) hk.2.2 s1 fun k hk'=>Int.le_of_lt (hk.2.1 k hk')
  have hp:=hL p (List.mem_cons_self ..)
  have c:=zR (fun g:Int × Int=>decide (p.1<g.1∧g.1<p.2)) (fun g=>decide (p.2<g.1)) (fun g=>decide (L<g.1)) (fun x a b=>by
    have:=of_decide_eq_true a
    have:=of_decide_eq_true b
    omega) (fun x z=>by
    refine decide_eq_true ?_
    have h1:=hk.1
    rcases z with z|z
    ·have:=of_decide_eq_true z
     omega
    ·have:=of_decide_eq_true z
     omega) (skip p.1 gs)
  have d:=vF (fun g=>decide (L<g.1)) p.1 gs
  show (cut p.1 p.2 (skip p.1 gs)++wo t (skip p.1 gs)).length≤_
  rw [List.length_append,List.length_cons]
  omega
theorem wo_len {ks gs:Ps} (hk:Sh ks) (hg:Sh gs):(wo ks gs).length≤ks.length+gs.length:=by
 match ks,hk with
 | [],_=>exact Nat.zero_le _
 | p::t,hk=>
  have:=AbQ (L:=p.1) hk hg fun k hk'=>by
   rcases List.mem_cons.mp hk' with rfl|hk'
   ·exact Int.le_refl _
   ·have:=hk.2.1 k hk'
    have:=hk.1
    omega
  have:=List.countP_le_length (p:=fun g:Int × Int=>decide (p.1<g.1)) (l:=gs)
  omega
def sz:Ps→Int
 | []=>0
 | p::t=>(p.2-p.1)+sz t
open Classical in
noncomputable def ind (P:Int→Prop) (x:Int):Int:=if P x then 1 else 0
noncomputable def cnt (P:Int→Prop) (lo:Int):Nat→Int
 | 0=>0
 | n+1=>cnt P lo n+ind P (lo+n)
theorem uR {A B C D:Int→Prop} (h:∀x,ind A x+ind B x=ind C x+ind D x) (lo:Int):∀n,cnt A lo n+cnt B lo n=cnt C lo n+cnt D lo n
 | 0=>rfl
 | n+1=>by
  have i:=uR h lo n
  have j:=h (lo+n)
  show cnt A lo n+ind A (lo+n)+(cnt B lo n+ind B (lo+n))=cnt C lo n+ind C (lo+n)+(cnt D lo n+ind D (lo+n))
  omega
theorem rE {P:Int→Prop} (lo:Int):∀n:Nat,(∀x,lo≤x→x<lo+n→¬ P x)→cnt P lo n=0
 | 0,_=>rfl
 | n+1,h=>by
  have i:=rE (P:=P) lo n fun x h1 h2=>h x h1 (by omega)
  show cnt P lo n+ind P (lo+n)=0
  rw [i,ind,if_neg (h (lo+n) (by omega) (by omega))]
  rfl
theorem zS (a b lo:Int):∀n:Nat,lo≤a→a≤b→cnt (fun x=>a≤x∧x<b) lo n=if lo+n≤a then 0 else if lo+n≤b then lo+n-a else b-a
 | 0,h1,h2=>by
  show (0:Int)=_
  split
  ·rfl
  ·split
   ·have:a=lo:=by omega
    omega
   ·omega
 | n+1,h1,h2=>by
  have i:=zS a b lo n h1 h2
  show cnt _ lo n+ind _ (lo+n)=_
  rw [i,ind]
  by_cases z:a≤lo+n∧lo+n<b
  ·rw [if_pos z]
   split <;> split <;> (try split) <;> omega
  ·rw [if_neg z]
   split <;> split <;> (try split) <;> (try split) <;> omega
theorem AbK {P Q:Int→Prop} (h:∀x,P x↔Q x) (lo:Int) (n:Nat):cnt P lo n=cnt Q lo n:=by
 have:P=Q:=funext fun x=>propext (h x)
 rw [this]
theorem ind_or {P Q:Int→Prop} (d:∀x,P x→Q x→False) (x:Int):ind (fun x=>P x∨Q x) x+ind (fun _=>False) x=ind P x+ind Q x:=by
 unfold ind
 by_cases p:P x
 ·by_cases q:Q x
  ·exact(d x p q).elim
  ·simp [p,q]
 ·by_cases q:Q x <;> simp [p,q]
theorem pL:∀{t:Ps} {lo:Int} {n:Nat},Wk t→(∀p ∈ t,lo≤p.1∧p.2≤lo+n)→sz t=cnt (mem t) lo n
 | [],lo,n,_,_=>by
  rw [rE lo n fun x _ _ z=>mem_nil.mp z]
  rfl
 | p::t,lo,n,h,hb=>by
  have i:=pL (t:=t) h.2.2 fun q hq=>hb q (List.mem_cons_of_mem _ hq)
  have hp:=hb p (List.mem_cons_self ..)
  have h1:=h.1
  have j:=zS p.1 p.2 lo n hp.1 (Int.le_of_lt h1)
  have k:=uR (ind_or (P:=fun x=>p.1≤x∧x<p.2) (Q:=mem t) fun x a b=>by
   have:=qP h.2.1 b
   omega) lo n
  have e:=AbK (P:=mem (p::t)) (Q:=fun x=>(p.1≤x∧x<p.2)∨mem t x) (fun x=>mem_cons) lo n
  have z:cnt (fun _=>False) lo n=0:=rE lo n fun _ _ _ z=>z
  show p.2-p.1+sz t=_
  rw [e,i]
  rw [z] at k
  split at j
  ·omega
  ·split at j <;> omega
theorem zU:∀t:Ps,∃b:Nat,∀p ∈ t,-(b:Int)≤p.1∧p.2≤b
 | []=>⟨0,by simp⟩
 | p::t=>by
  obtain⟨b,h⟩:=zU t
  refine⟨b+p.1.natAbs+p.2.natAbs,fun q hq=>?_⟩
  rcases List.mem_cons.mp hq with rfl|hq
  ·omega
  ·have:=h q hq
   omega
theorem sz_both {a b e c:Ps} (ha:Wk a) (hb:Wk b) (he:Wk e) (hc:Wk c) (h1:∀x,mem e x↔mem a x∨mem b x) (h2:∀x,mem c x↔mem a x∧mem b x):sz e+sz c=sz a+sz b:=by
 obtain⟨n,hn⟩:=zU (a++b++e++c)
 have w:∀{t:Ps},(∀p ∈ t,p ∈ a++b++e++c)→∀p ∈ t,-(n:Int)≤p.1∧p.2≤-(n:Int)+(2 * n:Nat):=fun h p hp=>by
  have:=hn p (h p hp)
  omega
 rw [pL ha (w fun p hp=>by simp [hp]),pL hb (w fun p hp=>by simp [hp]),pL he (w fun p hp=>by simp [hp]),pL hc (w fun p hp=>by simp [hp])]
 refine uR (fun x=>?_) _ _
 unfold ind
 by_cases p:mem a x <;> by_cases q:mem b x <;> simp [h1 x,h2 x,p,q]
end Lm
namespace Ls
open PySem L2 PySem.W
def top (i:Nat):Stmt:=PySem.Challenge.pw_lentwork_k17_books_made.main.body.getD i (.Pass ⟨0,0,0,0⟩)
abbrev iT:Stmt:=top 18
abbrev fY:Stmt:=top 19
abbrev sG:Stmt:=top 20
abbrev kH:Stmt:=top 21
abbrev jI:Stmt:=top 22
abbrev lU:Stmt:=top 23
abbrev hU:Stmt:=top 24
abbrev hV:Stmt:=top 26
abbrev sO:Stmt:=top 35
abbrev sL:Stmt:=top 37
abbrev kE:Stmt:=top 41
abbrev lX:Stmt:=cG (top 27) 0
abbrev sI:Stmt:=cG (top 27) 1
abbrev sH:Stmt:=cG (top 27) 2
abbrev sJ:Stmt:=cG (top 27) 3
abbrev lV:Stmt:=cG (top 27) 4
abbrev jG:Stmt:=cG (top 27) 5
abbrev lW:Stmt:=cG (top 27) 6
abbrev fX:Stmt:=cG (top 27) 7
abbrev mE:Stmt:=cG (top 16) 0
abbrev lY:Stmt:=cG (top 16) 1
abbrev mJ:Stmt:=cG (top 16) 2
abbrev lZ:Stmt:=cG (top 16) 3
abbrev mI:Stmt:=cG (top 16) 4
abbrev sK:Stmt:=cG (top 16) 7
abbrev jH:Stmt:=cG (top 16) 8
abbrev gA:Stmt:=cG (top 33) 0
abbrev gB:Stmt:=cG (top 33) 1
abbrev mQ:Stmt:=cG (top 33) 2
abbrev mO:Stmt:=cG (top 33) 3
abbrev eS:Stmt:=cG (top 33) 7
abbrev sM:Stmt:=cG (top 33) 8
abbrev iB:Stmt:=cG (top 33) 9
abbrev sN:Stmt:=cG (top 33) 10
abbrev mU:Stmt:=cG (top 33) 11
abbrev iA:Stmt:=cG (top 33) 13
abbrev mV:Stmt:=cG (top 33) 14
abbrev hZ:Stmt:=cG (top 33) 15
abbrev kF:Stmt:=cG (top 33) 18
abbrev qB:Stmt:=cG (top 33) 20
abbrev iG:Stmt:=top 29
abbrev jF:Stmt:=top 30
abbrev eC:Stmt:=top 31
abbrev eO:Stmt:=top 32
abbrev mZ:Stmt:=top 36
abbrev fZ:Stmt:=top 38
abbrev eP:Stmt:=top 39
abbrev mY:Stmt:=top 40
inductive Kn (H:Hp):V→Prop where
 | non:Kn H .non
 | bl (b:Bool):Kn H (.bl b)
 | int (i:Int):Kn H (.int i)
 | str (x:Str):Kn H (.str x)
 | lst {a:Addr} {xs:List V} (e:H a=some (.lst xs)):Kn H (.ref a)
 | dK {a:Addr} {kvs:List (Key × V)} (e:H a=some (.dK kvs)):Kn H (.ref a)
inductive Knd (H:Hp):V→Prop where
 | kn {x:V} (h:Kn H x):Knd H x
 | tup {a:Addr} {xs:List V} (e:H a=some (.tup xs)):Knd H (.ref a)
def iP:V→Bool
 | .int _=>true
 | _=>false
theorem Kn.same {H H':Hp} {x:V} (e:aL H H') (h:Kn H x):Kn H' x:=by
 cases h with
 | non=>exact .non
 | bl b=>exact .bl b
 | int i=>exact .int i
 | str x=>exact .str x
 | lst q=>exact .lst (e _ _ q)
 | dK q=>exact .dK (e _ _ q)
theorem Knd.same {H H':Hp} {x:V} (e:aL H H') (h:Knd H x):Knd H' x:=by
 cases h with
 | kn h=>exact .kn (h.same e)
 | tup q=>exact .tup (e _ _ q)
theorem ans_int {K:Frag} {H:Hp} {x:V} (h:Knd H x):∃t,iL K H x t∧kitOne K t (.type "int")=some (match x with | .int _=>true | .bl _=>true|_=>false):=by
 cases h with
 | kn h=>
  cases h with
  | non=>exact⟨_,.non,by kernel_rfl⟩
  | bl b=>exact⟨_,.bl b,by kernel_rfl⟩
  | int i=>exact⟨_,.int i,by rfl⟩
  | str x=>exact⟨_,.str x,by kernel_rfl⟩
  | lst q=>exact⟨_,.lst q,by kernel_rfl⟩
  | dK q=>exact⟨_,.dK q,by kernel_rfl⟩
 | tup q=>exact⟨_,.tup q,by kernel_rfl⟩
theorem AeS {K:Frag} {H:Hp} {x:V} (h:Knd H x):∃t,iL K H x t∧kitOne K t (.type "bool")=some (match x with | .bl _=>true|_=>false):=by
 cases h with
 | kn h=>
  cases h with
  | non=>exact⟨_,.non,by kernel_rfl⟩
  | bl b=>exact⟨_,.bl b,by rfl⟩
  | int i=>exact⟨_,.int i,by kernel_rfl⟩
  | str x=>exact⟨_,.str x,by kernel_rfl⟩
  | lst q=>exact⟨_,.lst q,by kernel_rfl⟩
  | dK q=>exact⟨_,.dK q,by kernel_rfl⟩
 | tup q=>exact⟨_,.tup q,by kernel_rfl⟩
theorem wP {K:Frag} {H:Hp} {x:V} (h:Kn H x):∃t,iL K H x t∧kitOne K t (.type "tuple")=some false:=by
 cases h with
 | non=>exact⟨_,.non,by kernel_rfl⟩
 | bl b=>exact⟨_,.bl b,by kernel_rfl⟩
 | int i=>exact⟨_,.int i,by kernel_rfl⟩
 | str x=>exact⟨_,.str x,by kernel_rfl⟩
 | lst q=>exact⟨_,.lst q,by kernel_rfl⟩
 | dK q=>exact⟨_,.dK q,by kernel_rfl⟩
theorem lQ {K:Frag} {H:Hp} {a:Addr} {xs:List V} (q:H a=some (.tup xs)):∃t,iL K H (.ref a) t∧kitOne K t (.type "tuple")=some true:=⟨_,.tup q,by rfl⟩
structure Gb (mg:Str→Option Value):Prop where
 isi:mg "isinstance"=none
 int:mg "int"=none
 bool:mg "bool"=none
 tuple:mg "tuple"=none
 len:mg "len"=none
 range:mg "range"=none
 list:mg "list"=none
 max:mg "max"=none
 sum:mg "sum"=none
 sorted:mg "sorted"=none
 any:mg "any"=none
 all:mg "all"=none
 enum:mg "enumerate"=none
 min:mg "min"=none
def dW:Sp:=fun vs H Q _=>∃x,vs=[x]∧Knd H x∧Q (.bl (iP x)) H
inductive oQ (H:Hp):V→Option (Int × Int)→Prop where
 | no {x:V} (h:Kn H x):oQ H x none
 | len {a:Addr} {xs:List V} (e:H a=some (.tup xs)) (h:xs.length≠2):oQ H (.ref a) none
 | one {a:Addr} {x y:V} (e:H a=some (.tup [x,y])) (hx:Knd H x) (hy:Knd H y) (h:iP x=false∨iP y=false):oQ H (.ref a) none
 | turned {a:Addr} {l h:Int} (e:H a=some (.tup [.int l,.int h])) (n:h≤l):oQ H (.ref a) none
 | yes {a:Addr} {l h:Int} (e:H a=some (.tup [.int l,.int h])) (n:l<h):oQ H (.ref a) (some (l,h))
theorem oQ.same {H H':Hp} {x:V} {o:Option (Int × Int)} (e:aL H H') (h:oQ H x o):oQ H' x o:=by
 cases h with
 | no h=>exact .no (h.same e)
 | len q h=>exact .len (e _ _ q) h
 | one q hx hy h=>exact .one (e _ _ q) (hx.same e) (hy.same e) h
 | turned q n=>exact .turned (e _ _ q) n
 | yes q n=>exact .yes (e _ _ q) n
def sC:Sp:=fun vs H Q _=>∃x o,vs=[x]∧oQ H x o∧Q (.bl o.isSome) H
section
variable {P:Program} {w:World} {K:PySem.W.Frag} {mg:Str→Option Value} {base:Heap}
theorem dM:bootBuiltins "isinstance"=some (.builtin "isinstance"):=by decide +kernel
theorem boot_i:bootBuiltins "int"=some (.type "int"):=by decide +kernel
theorem boot_b:bootBuiltins "bool"=some (.type "bool"):=by decide +kernel
theorem fJ:bootBuiltins "tuple"=some (.type "tuple"):=by decide +kernel
theorem uU:bootBuiltins "list"=some (.type "list"):=by decide +kernel
theorem boot_mx:bootBuiltins "max"=some (.builtin "max"):=by decide +kernel
theorem wM:bootBuiltins "sum"=some (.builtin "sum"):=by decide +kernel
theorem AeP:bootBuiltins "any"=some (.builtin "any"):=by decide +kernel
theorem lO:bootBuiltins "all"=some (.builtin "all"):=by decide +kernel
theorem tF:bootBuiltins "enumerate"=some (.type "enumerate"):=by decide +kernel
theorem wN:bootBuiltins "sorted"=some (.builtin "sorted"):=by decide +kernel
theorem scWhole:aR ["thing"] ["thing"] (aH iT):=⟨rfl,rfl,rfl,by decide +kernel,rfl,by decide +kernel,by decide +kernel⟩
theorem vT {f:Addr} {fd:FuncData} (F:Fun K "is_whole" "is_whole" iT f fd) (G:Gb mg):aK P w K mg base CX0 1 f fd ["thing"] dW:=by
 refine F.ok scWhole (fun vs H Q E h=>?_) (fun cdv A outer s H vs Q E hr h=>?_)
 ·obtain⟨x,rfl,_⟩:=h
  rfl
 ·obtain⟨x,rfl,hx,q⟩:=h
  refine⟨_,aJ (bQ (iU (aV cL (by rfl) G.isi dM (aA (pv 0) (aA (gM (v:=.ty "int") (by rfl) G.int boot_i rfl) aE)))
   (kJ (xK (aV cL (by rfl) G.isi dM (aA (pv 0) (aA (gM (v:=.ty "bool") (by rfl) G.bool boot_b rfl) aE))))))),?_⟩
  obtain⟨t,ty,e⟩:=ans_int (K:=K) hx
  obtain⟨t2,ty2,e2⟩:=AeS (K:=K) hx
  refine⟨_,rfl,_,_,_,_,rfl,.ty "int",.inl ⟨t,ty,e⟩,_,rfl,?_⟩
  refine dU (fun hc=>?_) (fun hc=>?_)
  ·refine⟨_,rfl,_,_,_,_,rfl,.ty "bool",.inl ⟨t2,ty2,e2⟩,_,rfl,?_⟩
   cases x <;> first|exact q|cases hc
  ·cases x <;> first|exact q|exact absurd rfl hc
theorem AaG:aR ["thing"] ["thing"] (aH fY):=⟨rfl,rfl,rfl,by decide +kernel,rfl,by decide +kernel,by decide +kernel⟩
theorem xM {f fW:Addr} {fd fdW:FuncData} (F:Fun K "is_stretch" "is_stretch" fY f fd) (G:Gb mg) (FW:Fun K "is_whole" "is_whole" iT fW fdW) (bW:aP K fdW ["thing"] []) (mW:mg "is_whole"=some (.ref fW)):aK P w K mg base CX0 2 f fd ["thing"] sC:=by
 have GW:aK P w K mg base CX0 1 fW fdW ["thing"] dW:=vT FW G
 refine F.ok AaG (fun vs H Q E h=>?_) (fun cdv A outer s H vs Q E hr h=>?_)
 ·obtain⟨x,o,rfl,_⟩:=h
  rfl
 ·obtain⟨x,o,rfl,hx,q⟩:=h
  refine⟨_,aF (cK (PW.pt (gK (cY (cX (aV cL (by rfl) G.isi dM (aA (pv 0) (aA (gM (v:=.ty "tuple") (by rfl) G.tuple fJ rfl) aE)))))
    (eV (bZ vO (aV cD (by rfl) G.len PySem.boot_len (aA (pv 0) aE)) aD (cA _))))) (aJ (bQ gN)) aZ)
   (aJ (bQ (iU (bJ GW hr rfl mW FW.kp bW .nil aY (aA (aX cI (pv 0) aD (fun _ _=>rfl)) aE))
    (iU (bJ GW hr rfl mW FW.kp bW .nil aY (aA (aX cI (pv 0) aD (fun _ _=>rfl)) aE))
     (kJ (fU eU (aX cI (pv 0) aD (fun _ _=>rfl)) (aX cI (pv 0) aD (fun _ _=>rfl)) (cA _))))))),?_⟩
  have tupA:∀{a:Addr} {xs:List V},x=.ref a→H a=some (.tup xs)→(xs.length≠2→Q (.bl false) H)→(∀u v,xs=[u,v]→Knd H u∧Knd H v∧(iP u=false→Q (.bl false) H)∧(iP v=false→Q (.bl false) H)∧∀l h,u=.int l→v=.int h→Q (.bl (decide (l<h))) H) →
   (tSeq (tIfS (tOr (tNot (tB (tCB (uH K) (gX (jR 0) (gX (tC (.ty "tuple")) lR))))) (tTest (tOp rNe (tCB (fun xs H Q=>∃p ys,xs=[.ref p]∧(SqL K H p ys∨SqT K H p ys)∧Q (.int ys.length) H) (gX (jR 0) lR)) (tC (.int 2))))) (tRet (tC (.bl false))) tNext)
    (tRet (tAndV (yH dW [] E0 (gX (tOp (kI K) (jR 0) (tC (.int 0))) lR)) (tAndV (yH dW [] E0 (gX (tOp (kI K) (jR 0) (tC (.int 1))) lR)) (tOp (rI0 fun i j=>.bl (decide (i<j))) (tOp (kI K) (jR 0) (tC (.int 0))) (tOp (kI K) (jR 0) (tC (.int 1))))))))
    { nx:=fun _ H'=>Q .non H',rt:=Q } (dO ["thing"] [x]) H:=fun {a xs} ex ea q1 q2=>by
   subst ex
   obtain⟨t,ty,e⟩:=lQ (K:=K) ea
   refine⟨_,rfl,_,_,_,_,rfl,.ty "tuple",.inl ⟨t,ty,e⟩,_,rfl,?_⟩
   refine dS ?_
   refine⟨_,rfl,a,xs,rfl,.inr (SqT.of ea),rfl,_,rfl,?_⟩
   refine dU (fun hc=>?_) (fun hc=>?_)
   ·refine q1 fun z=>?_
    rw [z] at hc
    cases hc
   ·have z:xs.length=2:=by
     by_cases z:xs.length=2
     ·exact z
     ·refine absurd ?_ hc
      have:decide (V.int (xs.length:Int)=V.int 2)=false:=decide_eq_false fun w=>z (by injection w with w;omega)
      rw [this]
      rfl
    obtain⟨u,v,rfl⟩:∃u v,xs=[u,v]:=by
     match xs,z with
     | [u,v],_=>exact⟨u,v,rfl⟩
    obtain⟨ku,kv,qu,qv,ql⟩:=q2 u v rfl
    refine⟨_,rfl,a,_,_,_,rfl,rfl,SqT.of ea,aM (j:=0) rfl,_,rfl,ku,_,rfl,?_⟩
    refine dU (fun hu=>?_) (fun hu=>qu (by simpa using hu))
    refine⟨_,rfl,a,_,_,_,rfl,rfl,SqT.of ea,aM (j:=1) rfl,_,rfl,kv,_,rfl,?_⟩
    refine dU (fun hv=>?_) (fun hv=>qv (by simpa using hv))
    obtain⟨l,rfl⟩:∃l,u=.int l:=by
     cases u <;> first|exact⟨_,rfl⟩|cases hu
    obtain⟨h,rfl⟩:∃h,v=.int h:=by
     cases v <;> first|exact⟨_,rfl⟩|cases hv
    exact⟨_,rfl,a,_,_,_,rfl,rfl,SqT.of ea,aM (j:=0) rfl,_,rfl,a,_,_,_,rfl,rfl,SqT.of ea,aM (j:=1) rfl,_,_,rfl,rfl,ql l h rfl rfl⟩
  cases hx with
  | no h=>
   obtain⟨t,ty,e⟩:=wP (K:=K) h
   refine⟨_,rfl,_,_,_,_,rfl,.ty "tuple",.inl ⟨t,ty,e⟩,_,rfl,?_⟩
   refine eL ?_
   exact eL q
  | len ea hl=>exact tupA rfl ea (fun _=>q) fun u v z=>absurd (by rw [z];rfl) hl
  | one ea hu hv hw=>
   refine tupA rfl ea (fun z=>absurd rfl z) fun u v z=>?_
   cases z
   refine⟨hu,hv,fun _=>q,fun _=>q,fun l h z1 z2=>?_⟩
   subst z1
   subst z2
   rcases hw with z|z <;> cases z
  | turned ea n=>
   refine tupA rfl ea (fun z=>absurd rfl z) fun u v z=>?_
   cases z
   refine⟨.kn (.int _),.kn (.int _),fun _=>q,fun _=>q,fun l h z1 z2=>?_⟩
   cases z1
   cases z2
   rw [decide_eq_false (by omega)]
   exact q
  | yes ea n=>
   refine tupA rfl ea (fun z=>absurd rfl z) fun u v z=>?_
   cases z
   refine⟨.kn (.int _),.kn (.int _),fun z=>(nomatch z),fun z=>(nomatch z),fun l h z1 z2=>?_⟩
   cases z1
   cases z2
   rw [decide_eq_true n]
   exact q
end
theorem bO {α β:Type} {F:α→β→Prop}:∀{xs:List α} {ys:List β} {i:Nat} {x:α},Paired F xs ys→xs[i]?=some x→∃y,ys[i]?=some y∧F x y
 | _,_,_,_,.nil,e=>by simp at e
 | _,_,0,_,.cons r _,e=>by
  simp at e
  subst e
  exact⟨_,rfl,r⟩
 | _,_,i+1,x,.cons _ t,e=>by
  obtain⟨u,h1,h2⟩:=bO (i:=i) (x:=x) t (by simpa using e)
  exact⟨u,by simpa using h1,h2⟩
def WorkP (os:List (Option (Int × Int))):Prop:=(∀(j:Nat) (o:Option (Int × Int)),os[j]?=some o→o.isSome=true)∧∀(k:Nat) (l h l' h':Int),os[k]?=some (some (l,h))→os[k+1]?=some (some (l',h'))→h≤l'
inductive gD (H:Hp):V→Bool→Prop where
 | no {x:V} (h:Kn H x):gD H x false
 | tup {a:Addr} {xs:List V} {os:List (Option (Int × Int))} {b:Bool} (e:H a=some (.tup xs)) (hl:xs.length≤1000) (h:Paired (oQ H) xs os) (hb:b=true↔WorkP os):gD H (.ref a) b
def tQ:Sp:=fun vs H Q _=>∃x b,vs=[x]∧gD H x b∧Q (.bl b) H
section
variable {P:Program} {w:World} {K:PySem.W.Frag} {mg:Str→Option Value} {base:Heap}
theorem xF:aR ["thing","stretch","index"] ["thing"] (aH sG):=⟨rfl,rfl,rfl,by decide +kernel,rfl,by decide +kernel,by decide +kernel⟩
theorem ok_work {f fS fW:Addr} {fd fdS fdW:FuncData} (F:Fun K "is_work" "is_work" sG f fd) (G:Gb mg) (FW:Fun K "is_whole" "is_whole" iT fW fdW) (bW:aP K fdW ["thing"] []) (mW:mg "is_whole"=some (.ref fW))
  (FS:Fun K "is_stretch" "is_stretch" fY fS fdS) (bS:aP K fdS ["thing"] []) (mS:mg "is_stretch"=some (.ref fS)):aK P w K mg base CX0 3 f fd ["thing"] tQ:=by
 have GS:aK P w K mg base CX0 2 fS fdS ["thing"] sC:=xM FS G FW bW mW
 refine F.ok xF (fun vs H Q E h=>?_) (fun cdv A outer s H vs Q E hr h=>?_)
 ·obtain⟨x,b,rfl,_⟩:=h
  rfl
 ·obtain⟨x,b,rfl,hx,q⟩:=h
  refine⟨_,aF (cK (cY (cX (aV cL (by rfl) G.isi dM (aA (pv 0) (aA (gM (v:=.ty "tuple") (by rfl) G.tuple fJ rfl) aE))))) (aJ (bQ gN)) aZ)
   (aF (eG PassesOwn.never rfl (gQ (pv 0)) (bX (i:=1) xF.nd rfl (Or.inl rfl)) (aJ (cK (cY (cX (bJ GS hr rfl mS FS.kp bS .nil aY (aA (pv 1) aE)))) (aJ (bQ gN)) aZ)))
   (aF (eG PassesOwn.never rfl (jK rfl G.range (aA aD (aA (aV cD (by rfl) G.len PySem.boot_len (aA (pv 0) aE)) aE))) (bX (i:=2) xF.nd rfl (Or.inl rfl))
    (aJ (cK (bZ eU (aX cI (aX cI (pv 0) (pv 2) (fun _ _=>rfl)) aD (fun _ _=>rfl)) (aX cI (aX cI (pv 0) (aS gC (pv 2) aD) (fun _ _=>rfl)) aD (fun _ _=>rfl)) (cA _)) (aJ (bQ gN)) aZ)))
   (aJ (bQ gN)))),?_⟩
  cases hx with
  | no h=>
   obtain⟨t,ty,e⟩:=wP (K:=K) h
   refine⟨_,rfl,_,_,_,_,rfl,.ty "tuple",.inl ⟨t,ty,e⟩,_,rfl,?_⟩
   exact eL q
  | @tup a xs os b ea hl hp hb=>
   obtain⟨t,ty,e⟩:=lQ (K:=K) ea
   refine⟨_,rfl,_,_,_,_,rfl,.ty "tuple",.inl ⟨t,ty,e⟩,_,rfl,?_⟩
   refine dS ?_
   refine⟨_,rfl,a,rfl,⟨_,SqT.of ea⟩,jQ (K:=K) (a:=a) (xs:=xs) (fun i σ H2=>H2=H∧(∃v,σ=[some (.ref a),v,none])∧∀(j:Nat) (o:Option (Int × Int)),j<i→os[j]?=some o→o.isSome=true)
    ⟨rfl,⟨none,rfl⟩,fun j o hj=>absurd hj (Nat.not_lt_zero _)⟩ (fun i σ H2 _ ⟨e2,_⟩=>by subst e2;exact SqT.of ea) ?_ ?_⟩
   ·rintro i y σ H2 hi ⟨rfl,⟨v,rfl⟩,hall⟩
    obtain⟨o,ho,hs⟩:=bO hp hi
    refine⟨_,rfl,y,o,rfl,hs,_,rfl,?_⟩
    cases o with
    | none=>
     refine eL ?_
     have:b=false:=by
      cases b with
      | false=>rfl
      | true=>exact absurd ((hb.mp rfl).1 i none ho) (by simp)
     rw [this] at q
     exact q
    | some p=>
     refine dS ?_
     refine⟨rfl,⟨_,rfl⟩,fun j o' hj hj'=>?_⟩
     by_cases hji:j<i
     ·exact hall j o' hji hj'
     ·have:j=i:=by omega
      subst this
      rw [ho] at hj'
      cases hj'
      rfl
   ·rintro σ H2 ⟨rfl,⟨v,rfl⟩,hall⟩
    have len:os.length=xs.length:=hp.length.symm
    have at_:∀(k:Nat),k<xs.length→∃(c:Addr) (l h:Int),xs[k]?=some (.ref c)∧H2 c=some (.tup [.int l,.int h])∧os[k]?=some (some (l,h)):=fun k hk=>by
     have e1:xs[k]?=some xs[k]:=List.getElem?_eq_getElem hk
     obtain⟨o,ho,hs⟩:=bO hp e1
     have hso:=hall k o hk ho
     cases o with
     | none=>cases hso
     | some p=>
      generalize xs[k]=y at e1 hs
      cases hs with
      | @yes c l h ec n=>exact⟨c,l,h,e1,ec,ho⟩
    have hz:xs.length<2 ^ 62:=Nat.lt_of_le_of_lt hl (by decide)
    refine⟨_,rfl,a,xs,rfl,.inr (SqT.of ea),1,(xs.length:Int),rfl,⟨by decide,by decide,by omega,by omega⟩,iE (lo:=1) (n:=((xs.length:Int)-1).toNat)
     (fun i σ H3=>H3=H2∧(∃v u,σ=[some (.ref a),v,u])∧∀(k:Nat) (l h l' h':Int),k<i→os[k]?=some (some (l,h))→os[k+1]?=some (some (l',h'))→h≤l') ⟨rfl,⟨_,_,rfl⟩,fun k l h l' h' hk=>absurd hk (Nat.not_lt_zero _)⟩ ?_ ?_⟩
    ·rintro i σ H3 hi ⟨rfl,⟨v,u,rfl⟩,hr2⟩
     obtain⟨c,l,h,x1,x2,x3⟩:=at_ i (by omega)
     obtain⟨c',l',h',y1,y2,y3⟩:=at_ (i+1) (by omega)
     have i1:(1:Int)+(i:Int)=((i+1:Nat):Int):=by omega
     have i2:((i+1:Nat):Int)-1=((i:Nat):Int):=by omega
     rw [i1]
     refine⟨_,rfl,_,rfl,a,xs,_,_,rfl,rfl,SqT.of ea,aM y1,c',_,_,_,rfl,rfl,SqT.of y2,aM (j:=0) rfl,_,rfl,_,rfl,_,_,rfl,rfl,a,xs,_,_,rfl,rfl,SqT.of ea,(by rw [i2];exact aM x1),c,_,_,_,rfl,rfl,SqT.of x2,aM (j:=1) rfl,_,_,rfl,rfl,_,rfl,?_⟩
     refine dU (fun hc=>?_) (fun hc=>?_)
     ·have hc':l'<h:=by simpa using hc
      have:b=false:=by
       cases b with
       | false=>rfl
       | true=>
        have:=(hb.mp rfl).2 i l h l' h' x3 y3
        omega
      rw [this] at q
      exact q
     ·have hc':¬ l'<h:=by simpa using hc
      refine⟨rfl,⟨_,_,rfl⟩,fun k l2 h2 l3 h3 hk e1 e2=>?_⟩
      by_cases hki:k<i
      ·exact hr2 k l2 h2 l3 h3 hki e1 e2
      ·have:k=i:=by omega
       subst this
       rw [x3] at e1
       rw [y3] at e2
       cases e1
       cases e2
       omega
    ·rintro σ H3 ⟨rfl,⟨v,u,rfl⟩,hr2⟩
     have:b=true:=hb.mpr ⟨fun j o hj=>hall j o (by rw [← len];exact(List.getElem?_eq_some_iff.mp hj).1) hj,fun k l h l' h' e1 e2=>hr2 k l h l' h' (by
      have:=(List.getElem?_eq_some_iff.mp e2).1
      omega) e1 e2⟩
     rw [this] at q
     exact q
def gF (H:Hp) (v:V) (p:Int × Int):Prop:=∃b,v=.ref b∧H b=some (.tup [.int p.1,.int p.2])
theorem bV {α β:Type} {F G:α→β→Prop} (f:∀a b,F a b→G a b):∀{xs:List α} {ys:List β},Paired F xs ys→Paired G xs ys
 | _,_,.nil=>.nil
 | _,_,.cons r t=>.cons (f _ _ r) (bV f t)
theorem cP {α β:Type} {F:α→β→Prop} {x:α} {y:β}:∀{xs:List α} {ys:List β},Paired F xs ys→F x y→Paired F (xs++[x]) (ys++[y])
 | _,_,.nil,h=>.cons h .nil
 | _,_,.cons r t,h=>.cons r (cP t h)
def cZ (H:Hp) (xs:List V) (ps:Lm.Ps):Prop:=Paired (gF H) xs ps
theorem cZ.same {H H':Hp} {xs:List V} {ps:Lm.Ps} (e:aL H H') (h:cZ H xs ps):cZ H' xs ps:=bV (fun v q ⟨b,z1,z2⟩=>⟨b,z1,e _ _ z2⟩) h
def cW (H:Hp) (p:Addr) (ps:Lm.Ps):Prop:=∃xs,H p=some (.tup xs)∧cZ H xs ps
theorem cW.same {H H':Hp} {p:Addr} {ps:Lm.Ps} (e:aL H H') (h:cW H p ps):cW H' p ps:=by
 obtain⟨xs,h1,h2⟩:=h
 exact⟨xs,e _ _ h1,h2.same e⟩
theorem sT {H:Hp}:∀{xs:List V} {ps:Lm.Ps},cZ H xs ps→(∀q ∈ ps,q.1<q.2)→Paired (oQ H) xs (ps.map some)
 | _,_,.nil,_=>.nil
 | _,q::ps,.cons ⟨b,e1,e2⟩ t,h=>by
  subst e1
  exact .cons (.yes e2 (h q (List.mem_cons_self ..))) (sT t fun r hr=>h r (List.mem_cons_of_mem _ hr))
theorem yE:∀{ps:Lm.Ps},Lm.Wk ps→∀(k:Nat) (l h l' h':Int),ps[k]?=some (l,h)→ps[k+1]?=some (l',h')→h≤l'
 | p::t,⟨h1,h2,h3⟩,0,l,h,l',h',e1,e2=>by
  cases e1
  exact h2 _ (List.mem_of_getElem? (i:=0) (by simpa using e2))
 | p::t,⟨h1,h2,h3⟩,k+1,l,h,l',h',e1,e2=>yE h3 k l h l' h' (by simpa using e1) (by simpa using e2)
theorem cW.workV {H:Hp} {p:Addr} {ps:Lm.Ps} (h:cW H p ps) (wk:Lm.Wk ps) (hl:ps.length≤1000):gD H (.ref p) true:=by
 obtain⟨xs,h1,h2⟩:=h
 refine .tup h1 (by rw [h2.length];exact hl) (sT h2 wk.lt) ⟨fun _=>⟨fun j o e=>?_,fun k l h l' h' e1 e2=>?_⟩,fun _=>rfl⟩
 ·rw [List.getElem?_map] at e
  cases z:ps[j]? with
  | none=>rw [z] at e;cases e
  | some q=>rw [z] at e;cases e;rfl
 ·rw [List.getElem?_map] at e1 e2
  cases z1:ps[k]? with
  | none=>rw [z1] at e1;cases e1
  | some q1=>
   cases z2:ps[k+1]? with
   | none=>rw [z2] at e2;cases e2
   | some q2=>
    rw [z1] at e1
    rw [z2] at e2
    cases e1
    cases e2
    exact yE wk k l h l' h' z1 z2
def kX:Sp:=fun vs H Q _=>∃(p:Addr) (ps:Lm.Ps),vs=[.ref p]∧cW H p ps∧Lm.Wk ps∧ps.length≤1000∧Q .non H
theorem yO:aR ["work"] ["work"] (aH kH):=⟨rfl,rfl,rfl,by decide +kernel,rfl,by decide +kernel,by decide +kernel⟩
theorem AdK {f fK:Addr} {fd fdK:FuncData} (F:Fun K "check_work" "check_work" kH f fd) (GK:aK P w K mg base CX0 3 fK fdK ["thing"] tQ) (kp:keepIn K (.ref fK)=true) (bK:aP K fdK ["thing"] []) (mK:mg "is_work"=some (.ref fK)):
  aK P w K mg base CX0 4 f fd ["work"] kX:=by
 refine F.ok yO (fun vs H Q E h=>?_) (fun cdv A outer s H vs Q E hr h=>?_)
 ·obtain⟨p,ps,rfl,_⟩:=h
  rfl
 ·obtain⟨p,ps,rfl,hw,wk,hl,q⟩:=h
  refine⟨_,aJ (cK (cY (cX (bJ GK hr rfl mK kp bK .nil aY (aA (pv 0) aE)))) (aJ qG) aZ),?_⟩
  exact⟨_,rfl,_,true,rfl,hw.workV wk hl,_,rfl,dS q⟩
end
end Ls
namespace Ls
open PySem L2 PySem.W
def pP (K:Frag):Sp:=fun vs H Q _=>∃(p:Addr) (xs:List V) (ps:Lm.Ps),vs=[.ref p]∧(SqL K H p xs∨H p=some (.tup xs))∧cZ H xs ps∧ps.length≤1000∧∀r H',aL H H'→cW H' r (Lm.merged ps)→Q (.ref r) H'
def oS:Sp:=fun vs H Q _=>∃(p:Addr) (ps:Lm.Ps),vs=[.ref p]∧cW H p ps∧Lm.Wk ps∧ps.length≤1000∧∀r H',aL H H'→cW H' r (Lm.merged ps)→Q (.ref r) H'
theorem oE {α β:Type} {F:α→β→Prop}:∀{xs:List α} {ys:List β} {y:β},Paired F xs (ys++[y])→∃us u,xs=us++[u]∧Paired F us ys∧F u y
 | _,[],y,.cons r .nil=>⟨[],_,rfl,.nil,r⟩
 | x::xs,b::ys,y,.cons r t=>by
  obtain⟨us,u,e,p,f⟩:=oE (ys:=ys) t
  exact⟨x::us,u,by rw [e];rfl,.cons r p,f⟩
theorem AcB {α:Type} (us:List α) (u v:α):(us++[u]).set us.length v=us++[v]:=by
 induction us with
 | nil=>rfl
 | cons a us ih=>
  show a::(us++[u]).set us.length v=a::(us++[v])
  rw [ih]
theorem AdS {n:Nat}:ixN (n+1) (-1)=some n:=by
 unfold ixN
 rw [if_neg (by decide),if_pos (by omega)]
 congr 1
 omega
def Found (qs ps:Lm.Ps) (i:Nat):Prop:=(qs=[]∧i=0)∨∃done c,qs=done++[c]∧done++Lm.mg c (ps.drop i)=Lm.merged ps
theorem for_seq {K:PySem.W.Frag} {a:Addr} {xs:List V} {g:TG} {tb:TS} {D:jT} {σ:St} {H:Hp} (Pv:Nat→St→Hp→Prop) (h0:Pv 0 σ H)
  (hk:(∀i σ H,i≤xs.length→Pv i σ H→SqL K H a xs)∨(∀i σ H,i≤xs.length→Pv i σ H→SqT K H a xs))
  (hs:∀i x σ H,xs[i]?=some x→Pv i σ H→g x σ H fun σ2 H2=>tb { D with nx:=Pv (i+1),ct:=Pv (i+1),bk:=D.nx } σ2 H2) (hd:∀ σ H,Pv xs.length σ H→D.nx σ H):
  ((∃xs,SqL K H a xs)∧∃W:Nat→Nat→St→Hp→Prop,(∃m,W 0 m σ H)∧∀i m σ H,W i m σ H →
   ((Itl K a).stop i H∧D.nx σ H)∨((Itl K a).go i H∧∃N:St→Hp→Prop,(∀ σ' H',N σ' H'→∃m',m'<m∧W (i+1) m' σ' H')∧∀x H',(Itl K a).yld i H x H'→g x σ H' fun σ2 H2=>tb { D with nx:=N,ct:=N,bk:=D.nx } σ2 H2)) ∨
  ((∃xs,SqT K H a xs)∧∃W:Nat→Nat→St→Hp→Prop,(∃m,W 0 m σ H)∧∀i m σ H,W i m σ H →
   ((Itt K a).stop i H∧D.nx σ H)∨((Itt K a).go i H∧∃N:St→Hp→Prop,(∀ σ' H',N σ' H'→∃m',m'<m∧W (i+1) m' σ' H')∧∀x H',(Itt K a).yld i H x H'→g x σ H' fun σ2 H2=>tb { D with nx:=N,ct:=N,bk:=D.nx } σ2 H2)):=
 hk.elim (fun k=>.inl ⟨⟨xs,k 0 σ H (Nat.zero_le _) h0⟩,wG Pv h0 k hs hd⟩) fun k=>.inr ⟨⟨xs,k 0 σ H (Nat.zero_le _) h0⟩,jQ Pv h0 k hs hd⟩
section
variable {P:Program} {w:World} {K:PySem.W.Frag} {mg:Str→Option Value} {base:Heap}
theorem kZ:aR ["stretches","whole","low","high"] ["stretches"] (aH jI):=⟨rfl,rfl,rfl,by decide +kernel,rfl,by decide +kernel,by decide +kernel⟩
theorem AaN {f:Addr} {fd:FuncData} (F:Fun K "merged" "merged" jI f fd) (G:Gb mg):aK P w K mg base CX0 1 f fd ["stretches"] (pP K):=by
 refine F.ok kZ (fun vs H Q E h=>?_) (fun cdv A outer s H vs Q E hr h=>?_)
 ·obtain⟨p,xs,ps,rfl,_⟩:=h
  rfl
 ·obtain⟨p,xs,ps,rfl,hp,pr,hl,q⟩:=h
  refine⟨_,(aF (bU (i:=1) kZ.nd rfl (Or.inl rfl) (dG aE)) (aF (eG PassesOwn.never rfl (pi_seq (pv 0)) (iH rfl (cS (bX (i:=2) kZ.nd rfl (Or.inl rfl)) (cS (bX (i:=3) kZ.nd rfl (Or.inl rfl)) fQ))) (aJ (cK (PW.pt (nA (qD (pv 1) (fun _=>rfl)) (jJ (bZ lH (pv 2) (aX cI (aX bE (pv 1) (oB iQ aD) (fun _ _=>rfl)) aD (fun _ _=>rfl)) (cA _))))) (aJ (xH (cF (aA (aX cI (aX bE (pv 1) (oB iQ aD) (fun _ _=>rfl)) aD (fun _ _=>rfl)) (aA (aV (AbN rfl) (by rfl) G.max boot_mx (aA (aX cI (aX bE (pv 1) (oB iQ aD) (fun _ _=>rfl)) aD (fun _ _=>rfl)) (aA (pv 3) aE))) aE))) (xJ (pv 1) (oB iQ aD) pY))) (aJ (cU (oC PySem.F.plainAttrs_list PySem.F.slot_list_append PySem.F.type_list_append dN (pv 1) (aA (cF (aA (pv 2) (aA (pv 3) aE))) aE))))))) (aJ (bQ (dJ dA (by rfl) G.tuple fJ (aA (pv 1) aE)))))),?_⟩
  have sl:sizeLine=16777216:=sizeLine_eq
  have lx:xs.length=ps.length:=pr.length
  refine⟨Nat.zero_le _,fun l hn=>?_⟩
  have hk:(∀{H2:Hp},aL H H2→SqL K H2 p xs)∨(∀{H2:Hp},aL H H2→SqT K H2 p xs):=hp.elim (fun z=>.inl fun e=>e.seq z) fun z=>.inr fun e=>SqT.of (e _ _ z)
  refine⟨_,rfl,p,rfl,for_seq (K:=K) (a:=p) (xs:=xs) (fun i σ H2=>aL H H2∧∃ws qs u v,H2 l=some (.lst ws)∧cZ H2 ws qs∧Found qs ps i∧qs.length≤i∧σ=[some (.ref p),some (.ref l),u,v])
   ⟨aI hn,[],[],_,_,aB,.nil,.inl ⟨rfl,rfl⟩,Nat.le_refl _,rfl⟩ (hk.elim (fun z=>.inl fun i σ H2 _ ⟨e,_⟩=>z e) fun z=>.inr fun i σ H2 _ ⟨e,_⟩=>z e) ?_ ?_⟩
  ·rintro i x σ H2 hi ⟨sm,ws,qs,u,v,hL,pq,fo,ql,rfl⟩
   obtain⟨y,hy,b',rfl,hb'⟩:=bO pr hi
   have il:i<xs.length:=(List.getElem?_eq_some_iff.mp hi).1
   have dr:ps.drop i=y::ps.drop (i+1):=by
    rw [List.drop_eq_getElem_cons (by omega)]
    congr 1
    exact Option.some.inj ((List.getElem?_eq_getElem (by omega)).symm.trans hy)
   have wl:ws.length=qs.length:=pq.length
   refine⟨b',_,rfl,SqT.of (sm _ _ hb'),rfl,_,_,rfl,_,_,rfl,rfl,?_⟩
   have put:∀H3 (o:HO),aL H2 H3→aL H (upd H3 l o):=fun H3 o e b z hz=>by
    rw [aC (aG hz hn)]
    exact e _ _ (sm _ _ hz)
   have keep:∀{H3:Hp} {o:HO} {us:List V} {rs:Lm.Ps},aL H2 H3→cZ H2 us rs→cZ (upd H3 l o) us rs:=fun {H3 o us rs} e h=>bV (fun v q ⟨b,z1,z2⟩=>⟨b,z1,by
    rw [aC (aW z2 hL (by intro z;cases z))]
    exact e _ _ z2⟩) h
   have app:Found (qs++[y]) ps (i+1)→∀D:jT,(∀H3 ws qs,aL H H3→H3 l=some (.lst ws)→cZ H3 ws qs→Found qs ps (i+1)→qs.length≤i+1→D.nx [some (.ref p),some (.ref l),some (.int y.1),some (.int y.2)] H3) →
     (tDrop (tBM K "list" yQ (jR 1) (gX (tTup (gX (jR 2) (gX (jR 3) lR))) lR))) D [some (.ref p),some (.ref l),some (.int y.1),some (.int y.2)] H2:=fun fo D hN=>by
    refine⟨_,rfl,.inl ⟨rfl,_,SqL.of hL⟩,_,rfl,_,rfl,by show 2≤sizeLine;decide,fun t ht=>?_⟩
    have nt:l≠t:=aG hL ht
    refine⟨l,_,_,rfl,rfl,by rw [aC nt];exact hL,by omega,?_⟩
    refine hN _ _ (qs++[y]) (put _ _ (aI ht)) aB (cP (keep (aI ht) pq) ⟨t,rfl,?_⟩) fo (by rw [List.length_append];show qs.length+1≤i+1;omega)
    rw [aC nt.symm]
    exact aB
   refine⟨_,rfl,_,.inl ⟨ws,SqL.of hL,rfl⟩,?_⟩
   rcases fo with ⟨rfl,rfl⟩|⟨done,c,rfl,fo⟩
   ·cases pq
    refine dS ?_
    exact app (.inr ⟨[],y,rfl,by rw [List.nil_append];cases ps with|nil=>cases hy|cons a ps=>(cases hy;rfl)⟩) _ fun H3 ws qs e1 e2 e3 e4 e5=>⟨e1,ws,qs,_,_,e2,e3,e4,e5,rfl⟩
   ·obtain⟨us,u',rfl,pu,cb,rfl,hcb⟩:=oE pq
    have ne:(!(us++[V.ref cb]).isEmpty)=true:=by
     cases us <;> rfl
    rw [ne]
    refine eL ?_
    rw [dr] at fo
    refine⟨_,rfl,_,rfl,_,rfl,l,_,_,_,rfl,rfl,SqL.of hL,rG _ _,cb,_,_,_,rfl,rfl,SqT.of hcb,aM (j:=1) rfl,_,_,rfl,rfl,_,rfl,?_⟩
    refine dU (fun hc=>?_) (fun hc=>?_)
    ·have hc':y.1≤c.2:=of_decide_eq_true hc
     have fo2:done++Lm.mg (c.1,if y.2 > c.2 then y.2 else c.2) (ps.drop (i+1))=Lm.merged ps:=by
      rw [← fo]
      congr 1
      show _=(if y.1≤c.2 then _ else _)
      rw [if_pos hc']
     refine⟨_,rfl,_,rfl,l,_,_,_,rfl,rfl,SqL.of hL,rG _ _,cb,_,_,_,rfl,rfl,SqT.of hcb,aM (j:=0) rfl,?_⟩
     refine⟨_,rfl,_,rfl,l,_,_,_,rfl,rfl,SqL.of hL,rG _ _,cb,_,_,_,rfl,rfl,SqT.of hcb,aM (j:=1) rfl,_,rfl,_,_,rfl,by show 2≤sizeLine;decide,fun t ht=>?_⟩
     have nt:l≠t:=aG hL ht
     refine⟨_,rfl,_,rfl,l,_,_,us.length,rfl,rfl,by rw [aC nt];exact hL,by rw [List.length_append];exact AdS,?_⟩
     refine⟨put _ _ (aI ht),us++[.ref t],done++[(c.1,if y.2 > c.2 then y.2 else c.2)],_,_,?_,?_,.inr ⟨done,_,rfl,fo2⟩,?_,rfl⟩
     ·rw [AcB]
      exact aB
     ·refine cP (keep (aI ht) pu) ⟨t,rfl,?_⟩
      rw [aC nt.symm]
      exact aB
     ·rw [List.length_append] at ql ⊢
      show done.length+1≤i+1
      have:done.length+1≤i:=ql
      omega
    ·have hc':¬ y.1≤c.2:=fun z=>hc (decide_eq_true z)
     refine app (.inr ⟨done++[c],y,rfl,?_⟩) _ fun H3 ws qs e1 e2 e3 e4 e5=>⟨e1,ws,qs,_,_,e2,e3,e4,e5,rfl⟩
     rw [← fo,List.append_assoc]
     congr 1
     show _=(if y.1≤c.2 then _ else _)
     rw [if_neg hc']
     rfl
  ·rintro σ H2 ⟨sm,ws,qs,u,v,hL,pq,fo,ql,rfl⟩
   have eq:qs=Lm.merged ps:=by
    have dn:ps.drop xs.length=[]:=List.drop_of_length_le (by omega)
    rcases fo with ⟨rfl,h0⟩|⟨done,c,rfl,fo⟩
    ·cases ps with
     | nil=>rfl
     | cons a t=>rw [lx] at h0;cases h0
    ·rw [← fo,dn]
     rfl
   subst eq
   refine⟨_,rfl,l,_,rfl,.inl ⟨SqL.of hL,fun r hr'=>?_⟩⟩
   exact q r _ (sm.trans (aI hr')) ⟨ws,aB,pq.same (aI hr')⟩
theorem scShort:aR ["work"] ["work"] (aH lU):=⟨rfl,rfl,rfl,by decide +kernel,rfl,by decide +kernel,by decide +kernel⟩
theorem AdA {f fC fM:Addr} {fd fdC fdM:FuncData} (F:Fun K "short_form" "short_form" lU f fd) (GC:aK P w K mg base CX0 4 fC fdC ["work"] kX) (kC:keepIn K (.ref fC)=true) (bC:aP K fdC ["work"] []) (mC:mg "check_work"=some (.ref fC))
  (GM:aK P w K mg base CX0 4 fM fdM ["stretches"] (pP K)) (kM:keepIn K (.ref fM)=true) (bM:aP K fdM ["stretches"] []) (mM:mg "merged"=some (.ref fM)):aK P w K mg base CX0 5 f fd ["work"] oS:=by
 refine F.ok scShort (fun vs H Q E h=>?_) (fun cdv A outer s H vs Q E hr h=>?_)
 ·obtain⟨p,ps,rfl,_⟩:=h
  rfl
 ·obtain⟨p,ps,rfl,hw,wk,hl,q⟩:=h
  refine⟨_,aF (cU (bJ GC hr rfl mC kC bC .nil aY (aA (pv 0) aE))) (aJ (bQ (bJ GM hr rfl mM kM bM .nil aY (aA (pv 0) aE)))),?_⟩
  obtain⟨xs,h1,h2⟩:=id hw
  exact⟨_,rfl,p,ps,rfl,hw,wk,hl,_,rfl,p,xs,ps,rfl,.inr h1,h2,hl,q⟩
end
end Ls
namespace Ls
open PySem L2 PySem.W
def sB:Sp:=fun vs H Q _=>∃(p q:Addr) (a b:Lm.Ps),vs=[.ref p,.ref q]∧cW H p a∧cW H q b∧Lm.Wk a∧Lm.Wk b∧a.length≤1000∧b.length≤1000∧∀r H',aL H H'→cW H' r (Lm.wo (Lm.merged a) (Lm.merged b))→Q (.ref r) H'
theorem lG {H:Hp} {xs:List V} {ps:Lm.Ps} (h:cZ H xs ps) {i:Nat} (hi:i<ps.length):∃b,xs[i]?=some (.ref b)∧H b=some (.tup [.int ps[i].1,.int ps[i].2]):=by
 have hx:i<xs.length:=by rw [h.length];exact hi
 obtain⟨y,hy,b,e1,e2⟩:=bO h (List.getElem?_eq_getElem hx)
 have:y=ps[i]:=Option.some.inj (hy.symm.trans (List.getElem?_eq_getElem hi))
 subst this
 exact⟨b,by rw [List.getElem?_eq_getElem hx,e1],e2⟩
section
variable {P:Program} {w:World} {K:PySem.W.Frag} {mg:Str→Option Value} {base:Heap}
theorem dI:aR ["one","other","kept","gone","rest","first","low","high","at","index"] ["one","other"] (aH hU):=⟨rfl,rfl,rfl,by decide +kernel,rfl,by decide +kernel,by decide +kernel⟩
theorem xL {f fS:Addr} {fd fdS:FuncData} (F:Fun K "without" "without" hU f fd) (G:Gb mg) (GS:aK P w K mg base CX0 5 fS fdS ["work"] oS) (kS:keepIn K (.ref fS)=true) (bS:aP K fdS ["work"] []) (mS:mg "short_form"=some (.ref fS)):
  aK P w K mg base CX0 6 f fd ["one","other"] sB:=by
 refine F.ok dI (fun vs H Q E h=>?_) (fun cdv A outer s H vs Q E hr h=>?_)
 ·obtain⟨p,q,a,b,rfl,_⟩:=h
  rfl
 ·obtain⟨p,q,a,b,rfl,ha,hb,wa,wb,la,lb,fin⟩:=h
  refine⟨_,(aF (bU (i:=2) dI.nd rfl (Or.inl rfl) (bJ GS hr rfl mS kS bS .nil aY (aA (pv 0) aE))) (aF (bU (i:=3) dI.nd rfl (Or.inl rfl) (bJ GS hr rfl mS kS bS .nil aY (aA (pv 1) aE))) (aF (bU (i:=4) dI.nd rfl (Or.inl rfl) (dG aE)) (aF (bU (i:=5) dI.nd rfl (Or.inl rfl) aD) (aF (eG PassesOwn.never rfl (gQ (pv 2)) (iH rfl (cS (bX (i:=6) dI.nd rfl (Or.inl rfl)) (cS (bX (i:=7) dI.nd rfl (Or.inl rfl)) fQ))) (aF (qF PassesOwn.never (PW.pt (nA (bZ eU (pv 5) (aV cD (by rfl) G.len PySem.boot_len (aA (pv 3) aE)) (cA _)) (jJ (bZ lH (aX cI (aX cI (pv 3) (pv 5) (fun _ _=>rfl)) aD (fun _ _=>rfl)) (pv 6) (cA _))))) (aJ (AcQ (i:=5) dI.nd rfl (Or.inl rfl) aD AdT))) (aF (bU (i:=8) dI.nd rfl (Or.inl rfl) (pv 6)) (aF (bU (i:=9) dI.nd rfl (Or.inl rfl) (pv 5)) (aF (qF PassesOwn.never (PW.pt (nA (bZ eU (pv 9) (aV cD (by rfl) G.len PySem.boot_len (aA (pv 3) aE)) (cA _)) (jJ (bZ eU (aX cI (aX cI (pv 3) (pv 9) (fun _ _=>rfl)) aD (fun _ _=>rfl)) (pv 7) (cA _))))) (aF (cK (bZ eU (pv 8) (aX cI (aX cI (pv 3) (pv 9) (fun _ _=>rfl)) aD (fun _ _=>rfl)) (cA _)) (aJ (cU (oC PySem.F.plainAttrs_list PySem.F.slot_list_append PySem.F.type_list_append dN (pv 4) (aA (cF (aA (pv 8) (aA (aX cI (aX cI (pv 3) (pv 9) (fun _ _=>rfl)) aD (fun _ _=>rfl)) aE))) aE)))) aZ) (aF (bU (i:=8) dI.nd rfl (Or.inl rfl) (aX cI (aX cI (pv 3) (pv 9) (fun _ _=>rfl)) aD (fun _ _=>rfl))) (aJ (AcQ (i:=9) dI.nd rfl (Or.inl rfl) aD AdT))))) (aJ (cK (bZ eU (pv 8) (pv 7) (cA _)) (aJ (cU (oC PySem.F.plainAttrs_list PySem.F.slot_list_append PySem.F.type_list_append dN (pv 4) (aA (cF (aA (pv 8) (aA (pv 7) aE))) aE)))) aZ))))))) (aJ (bQ (dJ dA (by rfl) G.tuple fJ (aA (pv 4) aE))))))))),?_⟩
  have sl:sizeLine=16777216:=sizeLine_eq
  refine⟨_,rfl,p,a,rfl,ha,wa,la,fun kp H1 s1 hk=>?_⟩
  refine⟨_,rfl,q,b,rfl,hb.same s1,wb,lb,fun gn H0 s2 hg=>?_⟩
  obtain⟨sk,mk,lk⟩:=Lm.merged_ok wa.lo
  obtain⟨sg,mg',lg⟩:=Lm.merged_ok wb.lo
  generalize Lm.merged a=ks at hk sk lk fin
  generalize Lm.merged b=gs at hg sg lg fin
  obtain⟨kx,hk1,hk2⟩:=hk.same s2
  obtain⟨gx,hg1,hg2⟩:=hg
  have s0:=s1.trans s2
  have wl:=Lm.wo_len sk sg
  have lkx:kx.length=ks.length:=hk2.length
  have lgx:gx.length=gs.length:=hg2.length
  refine⟨Nat.zero_le _,fun l hn=>?_⟩
  refine⟨_,rfl,kp,rfl,⟨_,SqT.of (aI hn _ _ hk1)⟩,jQ (K:=K) (a:=kp) (xs:=kx) (fun i σ H2=>aL H0 H2∧∃ws rs fi u1 u2 u3 u4,H2 l=some (.lst ws)∧cZ H2 ws rs∧rs++Lm.wo (ks.drop i) (gs.drop fi)=Lm.wo ks gs∧fi≤gs.length∧σ=[some (.ref p),some (.ref q),some (.ref kp),some (.ref gn),some (.ref l),some (.int (fi:Nat)),u1,u2,u3,u4])
   ⟨aI hn,[],[],0,_,_,_,_,aB,.nil,rfl,Nat.zero_le _,rfl⟩ (fun i σ H2 _ ⟨e,_⟩=>SqT.of (e _ _ hk1)) ?_ ?_⟩
  ·rintro i x σ H2 hi ⟨sm,ws,rs,fi,u1,u2,u3,u4,hL,pq,eq,fl,rfl⟩
   obtain⟨y,hy,b',rfl,hb'⟩:=bO hk2 hi
   have il:i<kx.length:=(List.getElem?_eq_some_iff.mp hi).1
   have dr:ks.drop i=y::ks.drop (i+1):=by
    rw [List.drop_eq_getElem_cons (by omega)]
    congr 1
    exact Option.some.inj ((List.getElem?_eq_getElem (by omega)).symm.trans hy)
   refine⟨b',_,rfl,SqT.of (sm _ _ hb'),rfl,_,_,rfl,_,_,rfl,rfl,?_⟩
   have gat:∀{H3:Hp} {k:Nat},aL H0 H3→k<gs.length→∃gb,atI gx (k:Int)=some (.ref gb)∧H3 gb=some (.tup [.int (gs.getD k (0,0)).1,.int (gs.getD k (0,0)).2]):=fun {H3 k} e hk=>by
    obtain⟨gb,e1,e2⟩:=lG hg2 hk
    refine⟨gb,aM e1,?_⟩
    rw [List.getD_eq_getElem?_getD,List.getElem?_eq_getElem hk]
    exact e _ _ e2
   have gdr:∀{k:Nat},k<gs.length→gs.drop k=gs.getD k (0,0)::gs.drop (k+1):=fun {k} hk=>by
    rw [List.drop_eq_getElem_cons hk,List.getD_eq_getElem?_getD,List.getElem?_eq_getElem hk]
    rfl
   have hg3:∀{H3:Hp},aL H0 H3→SqT K H3 gn gx:=fun e=>SqT.of (e _ _ hg1)
   rw [dr] at eq
   have eq0:rs++(Lm.cut y.1 y.2 (Lm.skip y.1 (gs.drop fi))++Lm.wo (ks.drop (i+1)) (Lm.skip y.1 (gs.drop fi)))=Lm.wo ks gs:=eq
   have put:∀{H3 H4:Hp} {o:HO},aL H0 H3→aL H3 H4→aL H0 (upd H4 l o):=fun {H3 H4 o} e1 e2 b z hz=>by
    rw [aC (aG hz hn)]
    exact e2 _ _ (e1 _ _ hz)
   have keep:∀{H3 H4:Hp} {o:HO} {us vs:List V} {rs:Lm.Ps},H3 l=some (.lst vs)→aL H3 H4→cZ H3 us rs→cZ (upd H4 l o) us rs:=fun {H3 H4 o us vs rs} hL e h=>bV (fun v q ⟨b,z1,z2⟩=>⟨b,z1,by
    rw [aC (aW z2 hL (by intro z;cases z))]
    exact e _ _ z2⟩) h
   refine pH (fun σ H3=>H3=H2∧∃f:Nat,f≤gs.length∧Lm.skip y.1 (gs.drop f)=Lm.skip y.1 (gs.drop fi)∧σ=[some (.ref p),some (.ref q),some (.ref kp),some (.ref gn),some (.ref l),some (.int (f:Nat)),some (.int y.1),some (.int y.2),u3,u4])
    (fun σ _=>match σ with | [_,_,_,_,_,some (.int f),_,_,_,_]=>gs.length-f.toNat|_=>0) ⟨rfl,fi,fl,rfl,rfl⟩ ?_ ?_
   ·rintro σ H3 ⟨rfl,f,hf,es,rfl⟩
    refine⟨_,rfl,_,rfl,gn,gx,rfl,.inr (hg3 sm),_,_,rfl,rfl,_,rfl,?_⟩
    refine dU (fun h1=>?_) (fun h1=>dS ?_)
    have f1:f<gs.length:=by
     have:=of_decide_eq_true h1
     omega
    obtain⟨gb,g1,g2⟩:=gat sm f1
    refine⟨_,rfl,_,rfl,gn,gx,_,_,rfl,rfl,hg3 sm,g1,gb,_,_,_,rfl,rfl,SqT.of g2,aM (j:=1) rfl,_,rfl,_,_,rfl,rfl,_,rfl,?_⟩
    refine dU (fun h2=>?_) (fun h2=>?_)
    ·have h2':(gs.getD f (0,0)).2≤y.1:=of_decide_eq_true h2
     refine⟨_,rfl,_,_,rfl,rfl,⟨rfl,f+1,f1,?_,by rfl⟩,?_⟩
     ·rw [← es,gdr f1]
      show _=(if (gs.getD f (0,0)).2≤y.1 then _ else _)
      rw [if_pos h2']
     ·show gs.length-((f:Int)+1).toNat<gs.length-(f:Int).toNat
      omega
    have ef:Lm.skip y.1 (gs.drop f)=gs.drop f:=by
     have h2':¬ (gs.getD f (0,0)).2≤y.1:=fun z=>h2 (decide_eq_true z)
     rw [gdr f1]
     show (if (gs.getD f (0,0)).2≤y.1 then _ else _)=_
     rw [if_neg h2']
    rotate_left
    have ef:Lm.skip y.1 (gs.drop f)=gs.drop f:=by
     have h1':¬ (f:Int)<(gx.length:Int):=fun z=>h1 (decide_eq_true z)
     rw [List.drop_of_length_le (by omega)]
     rfl
    all_goals
     rw [← es,ef] at eq0
     refine⟨_,rfl,_,rfl,?_⟩
     refine pH (fun σ H3=>aL H0 H3∧∃(ws:List V) (rs:Lm.Ps) (at_:Int) (ix:Nat),ix≤gs.length∧H3 l=some (.lst ws)∧cZ H3 ws rs∧rs++(Lm.cut at_ y.2 (gs.drop ix)++Lm.wo (ks.drop (i+1)) (gs.drop f))=Lm.wo ks gs ∧
       σ=[some (.ref p),some (.ref q),some (.ref kp),some (.ref gn),some (.ref l),some (.int (f:Nat)),some (.int y.1),some (.int y.2),some (.int at_),some (.int (ix:Nat))])
      (fun σ _=>match σ with | [_,_,_,_,_,_,_,_,_,some (.int f)]=>gs.length-f.toNat|_=>0) ⟨sm,ws,rs,y.1,f,hf,hL,pq,eq0,rfl⟩ ?_ ?_
     ·rintro σ H4 ⟨sm4,ws4,rs4,at_,jx,hj,hL4,pq4,eq4,rfl⟩
      have wl4:ws4.length=rs4.length:=pq4.length
      have bound:rs4.length≤2000:=by
       have:=congrArg List.length eq4
       rw [List.length_append] at this
       omega
      refine⟨_,rfl,_,rfl,gn,gx,rfl,.inr (hg3 sm4),_,_,rfl,rfl,_,rfl,?_⟩
      refine dU (fun h3=>?_) (fun h3=>dS ?_)
      have j1:jx<gs.length:=by
       have:=of_decide_eq_true h3
       omega
      obtain⟨gb,g1,g2⟩:=gat sm4 j1
      refine⟨_,rfl,_,rfl,gn,gx,_,_,rfl,rfl,hg3 sm4,g1,gb,_,_,_,rfl,rfl,SqT.of g2,aM (j:=0) rfl,_,rfl,_,_,rfl,rfl,_,rfl,?_⟩
      refine dU (fun h4=>?_) (fun h4=>?_)
      ·have h4':(gs.getD jx (0,0)).1<y.2:=of_decide_eq_true h4
       have ec:Lm.cut at_ y.2 (gs.drop jx)=(if at_<(gs.getD jx (0,0)).1 then [(at_,(gs.getD jx (0,0)).1)] else [])++Lm.cut (gs.getD jx (0,0)).2 y.2 (gs.drop (jx+1)):=by
        rw [gdr j1]
        show (if (gs.getD jx (0,0)).1<y.2 then _ else _)=_
        rw [if_pos h4']
       rw [ec] at eq4
       have ms:gs.length-((jx:Int)+1).toNat<gs.length-(jx:Int).toNat:=by omega
       refine⟨_,rfl,_,rfl,_,rfl,gn,gx,_,_,rfl,rfl,hg3 sm4,g1,gb,_,_,_,rfl,rfl,SqT.of g2,aM (j:=0) rfl,_,_,rfl,rfl,_,rfl,?_⟩
       refine dU (fun h5=>?_) (fun h5=>?_)
       ·rw [if_pos (of_decide_eq_true h5)] at eq4
        refine⟨_,rfl,.inl ⟨rfl,_,SqL.of hL4⟩,_,rfl,_,rfl,_,rfl,gn,gx,_,_,rfl,rfl,hg3 sm4,g1,gb,_,_,_,rfl,rfl,SqT.of g2,aM (j:=0) rfl,by show 2≤sizeLine;decide,fun t ht=>?_⟩
        have nt:l≠t:=aG hL4 ht
        refine⟨l,_,_,rfl,rfl,by rw [aC nt];exact hL4,by omega,?_⟩
        have sm5:=put (o:=.lst (ws4++[.ref t])) sm4 (aI (o:=.tup [.int at_,.int (gs.getD jx (0,0)).1]) ht)
        have pq5:cZ (upd (upd H4 t (.tup [.int at_,.int (gs.getD jx (0,0)).1])) l (.lst (ws4++[.ref t]))) (ws4++[.ref t]) (rs4++[(at_,(gs.getD jx (0,0)).1)]):=cP (keep hL4 (aI ht) pq4) ⟨t,rfl,by rw [aC nt.symm];exact aB⟩
        have g5:∀bb ys,H4 bb=some (.tup ys)→(upd (upd H4 t (.tup [.int at_,.int (gs.getD jx (0,0)).1])) l (.lst (ws4++[.ref t]))) bb=some (.tup ys):=fun bb ys z=>by
         rw [aC (aW z hL4 (by intro z;cases z)),aC (aG z ht)]
         exact z
        refine⟨_,rfl,_,rfl,gn,gx,_,_,rfl,rfl,hg3 sm5,g1,gb,_,_,_,rfl,rfl,SqT.of (g5 _ _ g2),aM (j:=1) rfl,?_⟩
        exact⟨_,rfl,_,_,rfl,rfl,⟨sm5,_,_,_,jx+1,j1,aB,pq5,by rw [← eq4];simp,rfl⟩,ms⟩
       ·rw [if_neg (fun z=>h5 (decide_eq_true z))] at eq4
        refine⟨_,rfl,_,rfl,gn,gx,_,_,rfl,rfl,hg3 sm4,g1,gb,_,_,_,rfl,rfl,SqT.of g2,aM (j:=1) rfl,?_⟩
        exact⟨_,rfl,_,_,rfl,rfl,⟨sm4,_,_,_,jx+1,j1,hL4,pq4,eq4,rfl⟩,ms⟩
      have ec:Lm.cut at_ y.2 (gs.drop jx)=if at_<y.2 then [(at_,y.2)] else []:=by
       rw [gdr j1]
       show (if (gs.getD jx (0,0)).1<y.2 then _ else _)=_
       rw [if_neg (fun z=>h4 (decide_eq_true z))]
      rotate_left
      have ec:Lm.cut at_ y.2 (gs.drop jx)=if at_<y.2 then [(at_,y.2)] else []:=by
       have h3':¬ (jx:Int)<(gx.length:Int):=fun z=>h3 (decide_eq_true z)
       rw [List.drop_of_length_le (by omega)]
       rfl
      all_goals
       rw [ec] at eq4
       refine⟨_,rfl,_,rfl,_,_,rfl,rfl,_,rfl,?_⟩
       refine dU (fun h6=>?_) (fun h6=>?_)
       ·rw [if_pos (of_decide_eq_true h6)] at eq4
        refine⟨_,rfl,.inl ⟨rfl,_,SqL.of hL4⟩,_,rfl,_,rfl,by show 2≤sizeLine;decide,fun t ht=>?_⟩
        have nt:l≠t:=aG hL4 ht
        refine⟨l,_,_,rfl,rfl,by rw [aC nt];exact hL4,by omega,?_⟩
        refine⟨put sm4 (aI ht),ws4++[.ref t],rs4++[(at_,y.2)],f,_,_,_,_,aB,cP (keep hL4 (aI ht) pq4) ⟨t,rfl,by rw [aC nt.symm];exact aB⟩,by rw [← eq4];simp,hf,rfl⟩
       ·rw [if_neg (fun z=>h6 (decide_eq_true z))] at eq4
        exact⟨sm4,ws4,rs4,f,_,_,_,_,hL4,pq4,eq4,hf,rfl⟩
     ·rintro σ H2 Q1 Q2 hq ⟨v,e1,v2,f1,pp,ys,f2,f3,i',j',e2,e3,k,e4,h⟩
      refine⟨v,e1,v2,f1,pp,ys,f2,f3,i',j',e2,e3,k,e4,?_⟩
      cases k with
      | false=>exact dS (hq _ _ (by simpa using h))
      | true=>
       rw [if_pos rfl] at h
       obtain⟨a1,a2,a3,a4,p1,x1,i1,v1,b1,b2,b3,b4,p2,x2,i2,v2',c1,c2,c3,c4,d1,d2,i3,j3,g2,g3,k3,g4,h⟩:=h
       exact eL ⟨a1,a2,a3,a4,p1,x1,i1,v1,b1,b2,b3,b4,p2,x2,i2,v2',c1,c2,c3,c4,d1,d2,i3,j3,g2,g3,k3,g4,hq _ _ h⟩
   ·rintro σ H2 Q1 Q2 hq ⟨v,e1,v2,f1,pp,ys,f2,f3,i',j',e2,e3,k,e4,h⟩
    refine⟨v,e1,v2,f1,pp,ys,f2,f3,i',j',e2,e3,k,e4,?_⟩
    cases k with
    | false=>exact dS (hq _ _ (by simpa using h))
    | true=>
     rw [if_pos rfl] at h
     obtain⟨a1,a2,a3,a4,p1,x1,i1,v1,b1,b2,b3,b4,p2,x2,i2,v2',c1,c2,c3,c4,d1,d2,i3,j3,g2,g3,k3,g4,h⟩:=h
     exact eL ⟨a1,a2,a3,a4,p1,x1,i1,v1,b1,b2,b3,b4,p2,x2,i2,v2',c1,c2,c3,c4,d1,d2,i3,j3,g2,g3,k3,g4,hq _ _ h⟩
  ·rintro σ H2 ⟨sm,ws,rs,fi,u1,u2,u3,u4,hL,pq,eq,fl,rfl⟩
   have dn:ks.drop kx.length=[]:=List.drop_of_length_le (by omega)
   rw [dn] at eq
   have eq:rs++[]=Lm.wo ks gs:=eq
   rw [List.append_nil] at eq
   subst eq
   refine⟨_,rfl,l,_,rfl,.inl ⟨SqL.of hL,fun r hr'=>?_⟩⟩
   exact fin r _ (s0.trans (sm.trans (aI hr'))) ⟨ws,aB,pq.same (aI hr')⟩
end
end Ls
namespace L2
open PySem PySem.Spec PyProof.Rows
theorem iJ.of {X:Cx} {NB:List Str} {n:Nat} {js:List Nat} {scope:Scope} {cl:List (Str × Addr)} (clo:closureFor scope X.env=pure cl) (hsub:∀p ∈ cl,X.env.cells.lookup p.1=some p.2)
  (hhas:∀p ∈ (relabel scope X.env).names,(p.2=.cell∨p.2=.free)→(cl.lookup p.1).isSome=true) (len:NB.length=n+js.length) (nam:∀k j,js[k]?=some j→NB[n+k]?=X.N[j]?)
  (ck:∀x ∈ NB.drop n,((relabel scope X.env).names.lookup x=some .cell∨(relabel scope X.env).names.lookup x=some .free)∧(X.env.kindOf x=some .cell∨X.env.kindOf x=some .free)∧(cl.lookup x).isSome=true):iJ X NB n js scope cl:=
 ⟨clo,fun x c q=>hsub (x,c) (PySem.mem_of_lookup q),fun x q=>q.elim (fun z=>hhas (x,_) (PySem.mem_of_lookup z) (.inl rfl)) fun z=>hhas (x,_) (PySem.mem_of_lookup z) (.inr rfl),len,nam,fun x _ hx=>ck x hx⟩
theorem cO {α:Type} {P:α→Prop}:∀x ∈ ([]:List α),P x:=fun x hx=>absurd hx (by simp)
theorem aN {α:Type} {P:α→Prop} {a:α} {l:List α} (h:P a) (t:∀x ∈ l,P x):∀x ∈ a::l,P x:=fun x hx=>by
 rcases List.mem_cons.mp hx with rfl|hx
 ·exact h
 ·exact t x hx
end L2
namespace Ls
open PySem L2 PySem.W
theorem dD {i:Nat} {v:V} {σ:St} {H:Hp} {Q:St→Hp→Prop} (h:Q (σ.set i (some v)) H):dX i v σ H Q:=h
theorem eB {σ:St} {H:Hp} {Q:Bool→Hp→Prop} (h:Q true H):tYes σ H Q:=h
def vN (p:Int × Int):PyData:=.tuple [.int p.1,.int p.2]
def workD (ps:List (Int × Int)):PyData:=.tuple (ps.map vN)
theorem AcI {K:Frag} {H:Hp} {v:V} {p:Int × Int} (h:gF H v p):RdV K H v (vN p):=by
 obtain⟨b,rfl,q⟩:=h
 exact .tup (SqT.of q) (.cons (.int _) (.cons (.int _) .nil))
theorem qC {K:Frag} {H:Hp}:∀{xs:List V} {ps:List (Int × Int)},Paired (gF H) xs ps→oR K H xs (ps.map vN)
 | _,_,.nil=>.nil
 | _,_,.cons r t=>.cons (AcI r) (qC t)
def Gd (n:Nat) (d:PyData):Prop:=d.canLay0=true∧d.depth≤n
theorem xY:∀{ds:List PyData},(∀d ∈ ds,d.canLay0=true)→PyData.canLayAll0 ds=true
 | [],_=>by rw [PyData.canLayAll0]
 | d::ds,h=>by
  rw [PyData.canLayAll0,h d (List.mem_cons_self),xY fun e he=>h e (List.mem_cons_of_mem _ he)]
  rfl
theorem xX {n:Nat}:∀{ds:List PyData},(∀d ∈ ds,d.depth≤n)→PyData.depthAll ds≤n
 | [],_=>by rw [PyData.depthAll];exact Nat.zero_le _
 | d::ds,h=>by
  rw [PyData.depthAll]
  exact Nat.max_le.mpr ⟨h d List.mem_cons_self,xX fun e he=>h e (List.mem_cons_of_mem _ he)⟩
theorem Gd.tup {n:Nat} {ds:List PyData} (h:∀d ∈ ds,Gd n d):Gd (n+1) (.tuple ds):=by
 refine⟨?_,?_⟩
 ·rw [PyData.canLay0]
  exact xY fun d hd=>(h d hd).1
 ·rw [PyData.depth]
  exact Nat.succ_le_succ (xX fun d hd=>(h d hd).2)
theorem Gd.lst {n:Nat} {ds:List PyData} (h:∀d ∈ ds,Gd n d):Gd (n+1) (.list ds):=by
 refine⟨?_,?_⟩
 ·rw [PyData.canLay0]
  exact xY fun d hd=>(h d hd).1
 ·rw [PyData.depth]
  exact Nat.succ_le_succ (xX fun d hd=>(h d hd).2)
theorem Gd.int {n:Nat} (i:Int):Gd n (.int i):=⟨by rw [PyData.canLay0],by rw [PyData.depth];exact Nat.zero_le _⟩
theorem Gd.non {n:Nat}:Gd n .none:=⟨by rw [PyData.canLay0],by rw [PyData.depth];exact Nat.zero_le _⟩
theorem Gd.mono {n m:Nat} {d:PyData} (h:Gd n d) (e:n≤m):Gd m d:=⟨h.1,Nat.le_trans h.2 e⟩
theorem Gd.shaped {n:Nat} {d:PyData} (h:Gd n d) (e:n≤64):SeqAt.shaped d=true:=by
 unfold SeqAt.shaped
 rw [h.1,decide_eq_true (Nat.le_trans h.2 e)]
 rfl
theorem nU {n:Nat}:∀d ∈ ([]:List PyData),Gd n d:=fun d h=>absurd h (by simp)
theorem eN {n:Nat} {d:PyData} {ds:List PyData} (h:Gd n d) (hs:∀e ∈ ds,Gd n e):∀e ∈ d::ds,Gd n e:=fun e he=>by
 rcases List.mem_cons.mp he with z|z
 ·rw [z];exact h
 ·exact hs e z
theorem Gd.pair (p:Int × Int):Gd 1 (vN p):=Gd.tup (eN (Gd.int _) (eN (Gd.int _) nU))
theorem AdY {n:Nat} (ps:List (Int × Int)):∀d ∈ ps.map vN,Gd (n+1) d:=fun d hd=>by
 obtain⟨p,_,rfl⟩:=List.mem_map.mp hd
 exact(Gd.pair p).mono (by omega)
theorem vC {K:Frag} {H:Hp} {p:Addr} {ps:Lm.Ps} (h:cW H p ps):RdV K H (.ref p) (workD ps):=by
 obtain⟨xs,h1,h2⟩:=h
 exact .tup (SqT.of h1) (qC h2)
def Told (H:Hp) (Q:VK) (n:Nat) (M:Int→Prop):Prop:=∀(r:Addr) (d:Lm.Ps) (H':Hp),aL H H'→cW H' r d→Lm.Sh d→(∀x,Lm.mem d x↔M x)→d.length≤n→Q (.ref r) H'
def xB:Sp:=fun vs H Q _=>∃(p q:Addr) (a b:Lm.Ps),vs=[.ref p,.ref q]∧cW H p a∧cW H q b∧Lm.Wk a∧Lm.Wk b∧a.length≤1000∧b.length≤1000∧Told H Q (a.length+b.length) fun x=>Lm.mem a x∧¬ Lm.mem b x
def spSt:Sp:=fun vs H Q _=>∃(p:Addr) (a:Lm.Ps),vs=[.ref p]∧cW H p a∧Lm.Wk a∧a.length≤1000∧Told H Q a.length fun x=>Lm.mem a x
section
variable {P:Program} {w:World} {K:PySem.W.Frag} {mg:Str→Option Value} {base:Heap}
theorem diff_of {f:Addr} {fd:FuncData} {k:Nat} (h:aK P w K mg base CX0 k f fd ["one","other"] sB):aK P w K mg base CX0 k f fd ["one","other"] xB:=by
 refine h.imp fun vs H Q E ⟨p,q,a,b,e,ha,hb,wa,wb,la,lb,t⟩=>⟨p,q,a,b,e,ha,hb,wa,wb,la,lb,fun r H' s hr=>?_⟩
 obtain⟨s1,m1,l1⟩:=Lm.merged_ok wa.lo
 obtain⟨s2,m2,l2⟩:=Lm.merged_ok wb.lo
 obtain⟨i1,i2,i3⟩:=Lm.wo_ok s1 s2
 have l3:=Lm.wo_len s1 s2
 exact t r _ H' s hr i1 (fun x=>by rw [i3 x,m1 x,m2 x]) (by omega)
theorem st_of {f:Addr} {fd:FuncData} {k:Nat} (h:aK P w K mg base CX0 k f fd ["work"] oS):aK P w K mg base CX0 k f fd ["work"] spSt:=by
 refine h.imp fun vs H Q E ⟨p,a,e,ha,wa,la,t⟩=>⟨p,a,e,ha,wa,la,fun r H' s hr=>?_⟩
 obtain⟨s1,m1,l1⟩:=Lm.merged_ok wa.lo
 exact t r _ H' s hr s1 m1 l1
end
end Ls
namespace Ls
open PySem L2 PySem.W
def flds (pw d:Addr):List (Str × V):=dC "results" (.ref d) (dC "work" (.ref pw) [])
theorem wr:¬ ("work":Str)="results":=by decide +kernel
theorem tE (pw d:Addr):(flds pw d).lookup ("work":Str)=some (.ref pw):=by
 unfold flds
 rw [eA,if_neg wr,eA,if_pos rfl]
theorem jB (pw d:Addr):(flds pw d).lookup ("results":Str)=some (.ref d):=by
 unfold flds
 rw [eA,if_pos rfl]
theorem gO (pw d:Addr) {m:Str} (h1:¬ m="results") (h2:¬ m="work"):(flds pw d).lookup m=none:=by
 unfold flds
 rw [eA,if_neg h1,eA,if_neg h2]
 all_goals rfl
structure cR (C:Addr) (H:Hp) (p pw d:Addr) (ws:Lm.Ps) (kvs:List (Key × V)):Prop where
 ob:∃dx,H p=some (.ins C dx (flds pw d))
 wk:cW H pw ws
 dc:H d=some (.dK kvs)
theorem cR.same {C:Addr} {H H':Hp} {p pw d:Addr} {ws:Lm.Ps} {kvs:List (Key × V)} (e:aL H H') (h:cR C H p pw d ws kvs):cR C H' p pw d ws kvs:=by
 obtain⟨⟨dx,h1⟩,h2,h3⟩:=h
 exact⟨⟨dx,e _ _ h1⟩,h2.same e,e _ _ h3⟩
structure Cl (K:PySem.W.Frag) (mg:Str→Option Value) (C:Addr):Prop where
 cl:Cls K C
 nW:dE K C "work"
 nR:dE K C "results"
 mgC:mg "Sheet"=some (.ref C)
def wX (C:Addr):Sp:=fun vs H Q _=>∃(p dx q:Addr) (a:Lm.Ps),vs=[.ref p,.ref q]∧H p=some (.ins C dx [])∧cW H q a∧Lm.Wk a∧a.length≤1000 ∧
 ∀(pw d:Addr) (ws:Lm.Ps) (H':Hp),H d=none→cR C H' p pw d ws []→Lm.Sh ws→(∀x,Lm.mem ws x↔Lm.mem a x)→ws.length≤a.length→(∀b o,H b=some o→b≠p→H' b=some o)→Q .non H'
def tV:Sp:=fun vs H Q _=>∃(p:Addr) (ns:List Int),vs=[.ref p]∧H p=some (.tup (ns.map V.int))∧ns.length≤1000∧∀H',aL H H'→Q (.bl true) H'
def tZ (C:Addr):Sp:=fun vs H Q _=>∃(p pw d:Addr) (ws:Lm.Ps) (kvs:List (Key × V)) (i j:Int),vs=[.ref p,.int i,.int j]∧cR C H p pw d ws kvs∧ws.length≤1000∧∀H',aL H H'→Q (.bl (ws.any fun q=>decide (q.1≤i) && decide (j≤q.2))) H'
def tY (C:Addr):Sp:=fun vs H Q _=>∃(p pw d:Addr) (ws:Lm.Ps) (kvs:List (Key × V)) (ns:List Int),vs=[.ref p]∧cR C H p pw d ws kvs∧kvs.map (·.1)=ns.map Sum.inl∧ns.Nodup∧ns.length<64∧Told H Q ns.length fun x=>x ∈ ns
section
variable {P:Program} {w:World} {K:PySem.W.Frag} {mg:Str→Option Value} {base:Heap}
theorem scInit:aR ["self","work"] ["self","work"] (aH lX):=⟨rfl,rfl,rfl,by decide +kernel,rfl,by decide +kernel,by decide +kernel⟩
theorem ok_init {f fS C:Addr} {fd fdS:FuncData} (F:Fun K "__init__" "Sheet.__init__" lX f fd) (T:Cl K mg C) (GS:aK P w K mg base CX0 5 fS fdS ["work"] spSt) (kS:keepIn K (.ref fS)=true) (bS:aP K fdS ["work"] []) (mS:mg "short_form"=some (.ref fS)):
  aK P w K mg base CX0 6 f fd ["self","work"] (wX C):=by
 refine F.ok scInit (fun vs H Q E h=>?_) (fun cdv A outer s H vs Q E hr h=>?_)
 ·obtain⟨p,dx,q,a,rfl,_⟩:=h
  rfl
 ·obtain⟨p,dx,q,a,rfl,hp,ha,wa,la,t⟩:=h
  refine⟨_,aF (dF (pv 0) (bJ GS hr rfl mS kS bS .nil aY (aA (pv 1) aE)) rfl) (aJ (dF (pv 0) vM rfl)),?_⟩
  refine⟨_,rfl,q,a,rfl,ha,wa,la,fun r ws H1 s1 hw sh mm ll=>?_⟩
  refine⟨_,rfl,p,C,dx,[],rfl,s1 _ _ hp,T.cl,T.nW,(by show 0<1000;decide),?_⟩
  intro d hd
  have hp1:H1 p=some (.ins C dx []):=s1 _ _ hp
  have npd:p≠d:=fun z=>by
   subst z
   rw [aB] at hd
   cases hd
  have hd1:H1 d=none:=by rw [aC npd.symm] at hd;exact hd
  have hd0:H d=none:=s1.free hd1
  refine⟨_,rfl,p,C,dx,_,rfl,(by rw [aC npd];exact aB),T.cl,T.nR,(by show 1<1000;decide),?_⟩
  have hk:∀b o,H1 b=some o→b≠p→(upd (upd (upd H1 p (.ins C dx (dC "work" (.ref r) []))) d (.dK [])) p (.ins C dx (dC "results" (.ref d) (dC "work" (.ref r) [])))) b=some o:=fun b o e hb=>by
   rw [aC hb,aC (aG e hd1),aC hb]
   exact e
  refine t r d ws _ hd0 ⟨⟨dx,aB⟩,?_,by rw [aC npd.symm,aB]⟩ sh mm ll fun b o e hb=>hk b o (s1 _ _ e) hb
  obtain⟨xs,x1,x2⟩:=hw
  exact⟨xs,hk _ _ x1 (fun z=>by subst z;rw [hp1] at x1;cases x1),bV (fun v q ⟨b,z1,z2⟩=>⟨b,z1,hk _ _ z2 (fun z=>by subst z;rw [hp1] at z2;cases z2)⟩) x2⟩
theorem AaH:aR ["thing"] ["thing"] (aH hV):=⟨rfl,rfl,rfl,by decide +kernel,rfl,by decide +kernel,by decide +kernel⟩
theorem ndN:(["number"]:List Str).Nodup:=by decide +kernel
theorem xN {f fW:Addr} {fd fdW:FuncData} (F:Fun K "is_numbers" "is_numbers" hV f fd) (G:Gb mg) (GW:aK P w K mg base CX0 1 fW fdW ["thing"] dW) (kW:keepIn K (.ref fW)=true) (bW:aP K fdW ["thing"] []) (mW:mg "is_whole"=some (.ref fW)):aK P w K mg base CX0 2 f fd ["thing"] tV:=by
 refine F.ok AaH (fun vs H Q E h=>?_) (fun cdv A outer s H vs Q E hr h=>?_)
 ·obtain⟨p,ns,rfl,_⟩:=h
  rfl
 ·obtain⟨p,ns,rfl,hp,ln,t⟩:=h
  refine⟨_,aJ (bQ (iU (aV cL (by rfl) G.isi dM (aA (pv 0) (aA (gM (v:=.ty "tuple") (by rfl) G.tuple fJ rfl) aE)))
   (kJ (aV (lN rfl) (by rfl) G.all lO (aA (gL (NB:=["number"]) (g:=dX 0) rfl (by decide +kernel) (by decide +kernel) (by decide +kernel) rfl (gQ (pv 0)) (fun C s H fp pn=>bX (i:=0) ndN rfl (Or.inl rfl) (.inr rfl)) (fun C s H fp pn=>eE)
    (fun C s H fp pn=>bJ GW hr rfl mW kW bW .nil aY (aA (pv 0) aE))) aE))))),?_⟩
  have sl:sizeLine=16777216:=sizeLine_eq
  obtain⟨ty,hty,e⟩:=lQ (K:=K) hp
  refine⟨_,rfl,_,_,_,_,rfl,.ty "tuple",.inl ⟨ty,hty,e⟩,_,rfl,?_⟩
  refine eL ?_
  refine⟨_,rfl,p,rfl,⟨_,SqT.of hp⟩,fun acc hacc=>?_⟩
  have lm:(ns.map V.int).length=ns.length:=List.length_map ..
  refine⟨fun i m ys H'=>m=ns.length-i∧i≤ns.length∧ys=(List.replicate i true).map V.bl∧aL H H'∧H' acc=some (.lst ys),⟨_,rfl,Nat.zero_le _,rfl,aI hacc,aB⟩,?_⟩
  rintro i m ys H' ⟨rfl,hi,rfl,sm,hA⟩
  refine⟨hA,?_⟩
  by_cases hlt:i<ns.length
  ·refine .inr ⟨⟨_,_,SqT.of (sm _ _ hp),List.getElem?_eq_getElem (by omega)⟩,?_⟩
   rintro y H'' ⟨rfl,hy⟩
   have ey:=hy _ (SqT.of (sm _ _ hp))
   have ez:y=V.int ns[i]:=by
    rw [List.getElem?_map,List.getElem?_eq_getElem hlt] at ey
    exact(Option.some.inj ey).symm
   subst ez
   refine dD ?_
   refine eB ?_
   refine eL ?_
   refine⟨_,rfl,_,rfl,.kn (.int _),hA,by rw [List.length_map,List.length_replicate];omega,_,?_,rfl,hlt,?_,fun b o z=>?_,aB⟩
   ·omega
   ·rw [List.replicate_succ',List.map_append]
    rfl
   ·rw [aC (aG z hacc)]
    exact sm _ _ z
  ·refine .inl ⟨⟨_,SqT.of (sm _ _ hp),by omega⟩,?_⟩
   refine⟨acc,_,rfl,SqL.of hA,?_⟩
   have ea:(List.replicate i true).all id=true:=by simp
   rw [ea]
   exact t _ sm
end
end Ls
namespace Ls
open PySem L2 PySem.W
section
variable {P:Program} {w:World} {K:PySem.W.Frag} {mg:Str→Option Value} {base:Heap}
theorem scHolds:aR ["self","first","behind"] ["self","first","behind"] (aH jG):=⟨rfl,rfl,rfl,by decide +kernel,rfl,by decide +kernel,by decide +kernel⟩
theorem ndH:(["low","high","behind","first"]:List Str).Nodup:=by decide +kernel
theorem any_map {α β:Type} (f:α→Bool) (l:List α):((l.map f).any id)=l.any f:=by
 induction l with
 | nil=>rfl
 | cons a l ih=>rw [List.map_cons,List.any_cons,List.any_cons,ih];rfl
theorem AdG {f C:Addr} {fd:FuncData} (F:Fun K "holds_row" "Sheet.holds_row" jG f fd) (G:Gb mg) (T:Cl K mg C):aK P w K mg base CX0 1 f fd ["self","first","behind"] (tZ C):=by
 refine F.ok scHolds (fun vs H Q E h=>?_) (fun cdv A outer s H vs Q E hr h=>?_)
 ·obtain⟨p,pw,d,ws,kvs,i,j,rfl,_⟩:=h
  rfl
 ·obtain⟨p,pw,d,ws,kvs,i₀,j₀,rfl,S,lw,t⟩:=h
  refine⟨_,(aJ (bQ (aV (AeL rfl) (by rfl) G.any AeP (aA (lE (NB:=["low","high","behind","first"]) (n:=2) (js:=[2,1]) (g:=gTup K 2 (lK (dX 0) (lK (dX 1) gNil))) (cl:=[("first",s.heap.objs.size+1),("behind",s.heap.objs.size+1+1)]) rfl (by decide +kernel) (by decide +kernel) rfl
    (iJ.of rfl (aN rfl (aN rfl cO)) (aN (fun z=>nomatch z) (aN (fun z=>nomatch z) (aN (fun z=>nomatch z) (aN (fun _=>rfl) (aN (fun _=>rfl) cO))))) rfl
     (fun k j h=>match k,j,h with|0,_,rfl=>rfl|1,_,rfl=>rfl|k+2,_,h=>absurd h (by simp)) (aN ⟨.inl rfl,.inl rfl,rfl⟩ (aN ⟨.inl rfl,.inl rfl,rfl⟩ cO)))
    (gQ (aU (pv 0) rfl)) (fun C s H fp pn=>iH (n:=2) rfl (cS (bX (i:=0) ndH rfl (Or.inl rfl) (.inr rfl)) (cS (bX (i:=1) ndH rfl (Or.inl rfl) (.inr rfl)) fQ))) (fun C s H fp pn=>eE)
    (fun C s H fp pn=>iU (fU lH (pv 0) (pv 3) (cA _)) (kJ (fU lH (pv 2) (pv 1) (cA _))))) aE)))),?_⟩
  have sl:sizeLine=16777216:=sizeLine_eq
  obtain⟨⟨dx,h1⟩,hw,hd⟩:=id S
  obtain⟨xs,x1,x2⟩:=id hw
  have lx:xs.length=ws.length:=x2.length
  refine⟨_,rfl,p,C,dx,_,_,rfl,h1,T.cl,T.nW,tE _ _,pw,rfl,⟨_,SqT.of x1⟩,fun acc hacc=>?_⟩
  refine⟨fun i m ys H'=>m=xs.length-i∧i≤xs.length∧ys=((ws.take i).map fun q=>decide (q.1≤i₀) && decide (j₀≤q.2)).map V.bl∧aL H H'∧H' acc=some (.lst ys),⟨_,rfl,Nat.zero_le _,rfl,aI hacc,aB⟩,?_⟩
  rintro i m ys H' ⟨rfl,hi,rfl,sm,hA⟩
  refine⟨hA,?_⟩
  by_cases hlt:i<xs.length
  ·refine .inr ⟨⟨xs,_,SqT.of (sm _ _ x1),List.getElem?_eq_getElem hlt⟩,?_⟩
   rintro y H'' ⟨rfl,hy⟩
   have ey:=hy xs (SqT.of (sm _ _ x1))
   obtain⟨q,hq,b',rfl,hb'⟩:=bO x2 ey
   have fin:∀b:Bool,b=(decide (q.1≤i₀) && decide (j₀≤q.2))→((ws.take i).map fun q=>decide (q.1≤i₀) && decide (j₀≤q.2)).map V.bl++[V.bl b]=((ws.take (i+1)).map fun q=>decide (q.1≤i₀) && decide (j₀≤q.2)).map V.bl:=fun b hb=>by
    rw [List.take_add_one,hq,hb]
    simp
   refine⟨b',_,rfl,SqT.of (sm _ _ hb'),rfl,_,_,rfl,_,_,rfl,rfl,rfl,?_⟩
   refine eB ?_
   refine eL ?_
   refine⟨_,rfl,_,rfl,_,_,rfl,rfl,_,rfl,?_⟩
   refine dU (fun hc=>?_) (fun hc=>?_)
   ·have hc':q.1≤i₀:=by simpa using hc
    refine⟨_,rfl,_,rfl,_,_,rfl,rfl,hA,by rw [List.length_map,List.length_map,List.length_take];omega,_,?_,rfl,hlt,fin _ (by rw [decide_eq_true hc'];rfl),fun b o z=>?_,aB⟩
    ·omega
    ·rw [aC (aG z hacc)]
     exact sm _ _ z
   ·have hc':¬ q.1≤i₀:=by simpa using hc
    refine⟨hA,by rw [List.length_map,List.length_map,List.length_take];omega,_,?_,rfl,hlt,fin _ (by rw [decide_eq_false hc'];rfl),fun b o z=>?_,aB⟩
    ·omega
    ·rw [aC (aG z hacc)]
     exact sm _ _ z
  ·refine .inl ⟨⟨xs,SqT.of (sm _ _ x1),by omega⟩,?_⟩
   have ei:ws.take i=ws:=List.take_of_length_le (by omega)
   rw [ei] at hA
   refine⟨acc,_,rfl,SqL.of hA,?_⟩
   rw [any_map (β:=Int)]
   exact t _ sm
end
end Ls
namespace Ls
open PySem L2 PySem.W
def vR (ns:List Int):Lm.Ps:=ns.map fun n=>(n,n+1)
theorem AdO {ns:List Int} {x:Int}:Lm.mem (vR ns) x↔x ∈ ns:=by
 constructor
 ·rintro⟨p,hp,h1,h2⟩
  obtain⟨n,hn,rfl⟩:=List.mem_map.mp hp
  have:x=n:=by
   have h1':n≤x:=h1
   have h2':x<n+1:=h2
   omega
  rw [this]
  exact hn
 ·intro h
  exact⟨(x,x+1),List.mem_map.mpr ⟨x,h,rfl⟩,Int.le_refl _,by show x<x+1;omega⟩
theorem yD:∀{ns:List Int},ns.Nodup→ns.Pairwise (·≤·)→Lm.Wk (vR ns)
 | [],_,_=>trivial
 | n::ns,nd,pw=>by
  obtain⟨p1,p2⟩:=List.pairwise_cons.mp pw
  obtain⟨d1,d2⟩:=List.nodup_cons.mp nd
  refine⟨by show n<n+1;omega,fun q hq=>?_,yD d2 p2⟩
  obtain⟨k,hk,rfl⟩:=List.mem_map.mp hq
  have h1:=p1 k hk
  have h2:n≠k:=fun z=>d1 (by rw [z];exact hk)
  show n+1≤k
  omega
theorem ndP:(["place"]:List Str).Nodup:=by decide +kernel
def lS (C:Addr):Sp:=fun vs H Q _=>∃(p pw d:Addr) (ws:Lm.Ps) (kvs:List (Key × V)) (ns:List Int),vs=[.ref p]∧cR C H p pw d ws kvs∧Lm.Sh ws∧ws.length≤64∧kvs.map (·.1)=ns.map Sum.inl∧ns.Nodup∧ns.length<64∧Told H Q (ws.length+ns.length) fun x=>Lm.mem ws x∧¬ x ∈ ns
section
variable {P:Program} {w:World} {K:PySem.W.Frag} {mg:Str→Option Value} {base:Heap}
theorem scLaid:aR ["self"] ["self"] (aH lW):=⟨rfl,rfl,rfl,by decide +kernel,rfl,by decide +kernel,by decide +kernel⟩
theorem ok_laid {f fS C:Addr} {fd fdS:FuncData} (F:Fun K "laid_work" "Sheet.laid_work" lW f fd) (G:Gb mg) (T:Cl K mg C) (GS:aK P w K mg base CX0 5 fS fdS ["work"] spSt) (kS:keepIn K (.ref fS)=true) (bS:aP K fdS ["work"] []) (mS:mg "short_form"=some (.ref fS)):
  aK P w K mg base CX0 6 f fd ["self"] (tY C):=by
 refine F.ok scLaid (fun vs H Q E h=>?_) (fun cdv A outer s H vs Q E hr h=>?_)
 ·obtain⟨p,pw,d,ws,kvs,ns,rfl,_⟩:=h
  rfl
 ·obtain⟨p,pw,d,ws,kvs,ns,rfl,S,hk,nd,l64,t⟩:=h
  refine⟨_,(aJ (bQ (bJ GS hr rfl mS kS bS .nil aY (aA (dJ dA (by rfl) G.tuple fJ (aA (gL (NB:=["place"]) (g:=dX 0) rfl (by decide +kernel) (by decide +kernel) (by decide +kernel) rfl
    (oX (aV (uS rfl) (by rfl) G.sorted wN (aA (aU (pv 0) rfl) aE))) (fun C s H fp pn=>bX (i:=0) ndP rfl (Or.inl rfl) (.inr rfl)) (fun C s H fp pn=>eE)
    (fun C s H fp pn=>cF (aA (pv 0) (aA (aS cQ (pv 0) aD) aE)))) aE)) aE)))),?_⟩
  have sl:sizeLine=16777216:=sizeLine_eq
  obtain⟨⟨dx,h1⟩,hw,hd⟩:=id S
  refine⟨_,rfl,p,C,dx,_,_,rfl,h1,T.cl,T.nR,jB _ _,d,kvs,ns,rfl,hd,hk,l64,fun l ns' hl pm pw'=>?_⟩
  have s0:aL H (upd H l (.lst (ns'.map V.int))):=aI hl
  have e0:(upd H l (.lst (ns'.map V.int))) l=some (.lst (ns'.map V.int)):=aB
  generalize upd H l (.lst (ns'.map V.int))=H1 at s0 e0 ⊢
  have ln:ns'.length=ns.length:=pm.length_eq
  have lm:(ns'.map V.int).length=ns'.length:=List.length_map ..
  refine⟨l,rfl,⟨_,SqL.of e0⟩,fun acc hacc=>?_⟩
  have nla:l≠acc:=aG e0 hacc
  refine⟨fun i m ys H'=>m=ns'.length-i∧i≤ns'.length∧cZ H' ys (vR (ns'.take i))∧aL H1 H'∧H' acc=some (.lst ys),⟨_,rfl,Nat.zero_le _,.nil,aI hacc,aB⟩,?_⟩
  rintro i m ys H' ⟨rfl,hi,hP,sm,hA⟩
  refine⟨hA,?_⟩
  have ly:ys.length=i:=by
   have:=hP.length
   unfold vR at this
   rw [List.length_map,List.length_take] at this
   omega
  by_cases hlt:i<ns'.length
  ·refine .inr ⟨⟨_,_,SqL.of (sm _ _ e0),List.getElem?_eq_getElem (by omega)⟩,?_⟩
   rintro y H'' ⟨rfl,hy⟩
   have ey:=hy _ (SqL.of (sm _ _ e0))
   have ez:y=V.int ns'[i]:=by
    rw [List.getElem?_map,List.getElem?_eq_getElem hlt] at ey
    exact(Option.some.inj ey).symm
   subst ez
   refine dD ?_
   refine eB ?_
   refine eL ?_
   refine⟨_,rfl,_,rfl,_,_,rfl,rfl,by show 2≤sizeLine;decide,fun t' ht=>?_⟩
   have nt:acc≠t':=aG hA ht
   refine⟨by rw [aC nt];exact hA,by omega,_,?_,rfl,hlt,?_,fun b o z=>?_,aB⟩
   ·omega
   ·unfold vR
    rw [List.take_add_one,List.getElem?_eq_getElem hlt,List.map_append]
    exact cP (bV (fun v q ⟨b,z1,z2⟩=>⟨b,z1,by rw [aC (aW z2 hA (by intro z;cases z)),aC (aG z2 ht)];exact z2⟩) hP) ⟨t',rfl,by rw [aC nt.symm];exact aB⟩
   ·rw [aC (aG z hacc),aC (aG (sm _ _ z) ht)]
    exact sm _ _ z
  ·refine .inl ⟨⟨_,SqL.of (sm _ _ e0),by omega⟩,?_⟩
   have ei:ns'.take i=ns':=List.take_of_length_le (by omega)
   rw [ei] at hP
   refine⟨acc,_,rfl,.inl ⟨SqL.of hA,fun r hr'=>?_⟩⟩
   have lo:(vR ns').length=ns.length:=by unfold vR;rw [List.length_map];exact ln
   have sA:aL H (upd H' r (.tup ys)):=s0.trans (sm.trans (aI hr'))
   refine⟨r,vR ns',rfl,⟨ys,aB,hP.same (aI hr')⟩,yD (pm.nodup_iff.mpr nd) pw',by omega,fun r2 d2 H2 s2 hr2 sd md ld=>?_⟩
   exact t r2 d2 H2 (sA.trans s2) hr2 sd (fun x=>(md x).trans (AdO.trans pm.mem_iff)) (by omega)
theorem scLeft:aR ["self"] ["self"] (aH lV):=⟨rfl,rfl,rfl,by decide +kernel,rfl,by decide +kernel,by decide +kernel⟩
theorem ok_left {f fW fL C:Addr} {fd fdW fdL:FuncData} (F:Fun K "left_work" "Sheet.left_work" lV f fd) (T:Cl K mg C) (GW:aK P w K mg base CX0 6 fW fdW ["one","other"] xB) (kW:keepIn K (.ref fW)=true) (bW:aP K fdW ["one","other"] []) (mW:mg "without"=some (.ref fW))
  (GL:aK P w K mg base CX0 6 fL fdL ["self"] (tY C)) (bL:aP K fdL ["self"] []) (mL:cJ K C "laid_work" fL):aK P w K mg base CX0 7 f fd ["self"] (lS C):=by
 refine F.ok scLeft (fun vs H Q E h=>?_) (fun cdv A outer s H vs Q E hr h=>?_)
 ·obtain⟨p,pw,d,ws,kvs,ns,rfl,_⟩:=h
  rfl
 ·obtain⟨p,pw,d,ws,kvs,ns,rfl,S,sh,lw,hk,nd,l64,t⟩:=h
  refine⟨_,(aJ (bQ (bJ GW hr rfl mW kW bW .nil aY (aA (aU (pv 0) rfl) (aA (cN (pv 0) T.cl mL GL hr bL .nil aY) aE))))),?_⟩
  obtain⟨⟨dx,h1⟩,hw,hd⟩:=id S
  refine⟨_,rfl,p,C,dx,_,_,rfl,h1,T.cl,T.nW,tE _ _,_,rfl,p,dx,_,rfl,h1,gO _ _ (by decide +kernel) (by decide +kernel),p,pw,d,ws,kvs,ns,rfl,S,hk,nd,l64,fun r d1 H1 s1 hr1 sd md ld=>?_⟩
  refine⟨pw,r,ws,d1,rfl,hw.same s1,hr1,sh.wk,sd.wk,by omega,by omega,fun r2 d2 H2 s2 hr2 sd2 md2 ld2=>?_⟩
  exact t r2 d2 H2 (s1.trans s2) hr2 sd2 (fun x=>(md2 x).trans (and_congr Iff.rfl (not_congr (md x)))) (by omega)
end
end Ls
namespace Ls
open PySem L2 PySem.W
def row (vf:Int→Int) (l:Int) (n:Nat):List V:=((List.range n).map fun(i:Nat)=>vf (l+(i:Int))).map V.int
theorem row_len (vf:Int→Int) (l:Int) (n:Nat):(row vf l n).length=n:=by
 unfold row
 rw [List.length_map,List.length_map,List.length_range]
theorem AcH (vf:Int→Int) (l:Int) (n:Nat):row vf l (n+1)=row vf l n++[V.int (vf (l+(n:Int)))]:=by
 unfold row
 rw [List.range_succ,List.map_append,List.map_append]
 rfl
theorem cover:∀(n:Nat) (l:Int) (ns:List Int),(∀i:Nat,i<n→l+(i:Int) ∈ ns)→n≤ns.length
 | 0,_,_,_=>Nat.zero_le _
 | n+1,l,ns,h=>by
  have hm:=h n (by omega)
  have h1:=cover n l (ns.erase (l+(n:Int))) fun i hi=>(List.mem_erase_of_ne (by omega)).mpr (h i (by omega))
  rw [List.length_erase_of_mem hm] at h1
  have:=List.length_pos_of_mem hm
  omega
def AeT (vf:Int→Int) (H:Hp) (v:V) (q:Int × Int):Prop:=∃b c,v=.ref b∧H b=some (.tup [.int q.1,.ref c])∧H c=some (.tup (row vf q.1 (q.2-q.1).toNat))
structure Holds (vf:Int→Int) (kvs:List (Key × V)) (ns:List Int):Prop where
 key:kvs.map (·.1)=ns.map Sum.inl
 nd:ns.Nodup
 len:ns.length<64
 val:∀x ∈ ns,eM kvs (Sum.inl x:Key)=some (.int (vf x))
 lo:∀x ∈ ns,-(2 ^ 61)≤x∧x<2 ^ 61
def sD (vf:Int→Int) (C:Addr):Sp:=fun vs H Q _=>∃(p pw d:Addr) (ws:Lm.Ps) (kvs:List (Key × V)) (l h:Int),vs=[.ref p,.int l,.int h]∧cR C H p pw d ws kvs∧(∀x,l≤x→x<h→eM kvs (Sum.inl x:Key)=some (.int (vf x))) ∧
 -(2 ^ 62)≤l∧l<h∧h<2 ^ 62∧h-l≤1000∧∀r H',aL H H'→H' r=some (.tup (row vf l (h-l).toNat))→Q (.ref r) H'
def sE (vf:Int→Int) (C:Addr):Sp:=fun vs H Q _=>∃(p pw d:Addr) (ws:Lm.Ps) (kvs:List (Key × V)) (ns:List Int),vs=[.ref p]∧cR C H p pw d ws kvs∧Holds vf kvs ns ∧
 ∀(r:Addr) (ds:Lm.Ps) (xs:List V) (H':Hp),aL H H'→H r=none→H' r=some (.lst xs)→Paired (AeT vf H') xs ds→Lm.Sh ds→(∀x,Lm.mem ds x↔x ∈ ns)→ds.length≤ns.length→Q (.ref r) H'
section
variable {P:Program} {w:World} {K:PySem.W.Frag} {mg:Str→Option Value} {base:Heap}
theorem AaI:aR ["self","low","high"] ["self","low","high"] (aH fX):=⟨rfl,rfl,rfl,by decide +kernel,rfl,by decide +kernel,by decide +kernel⟩
theorem ndPS:(["place","self"]:List Str).Nodup:=by decide +kernel
theorem xQ {f C:Addr} {fd:FuncData} (vf:Int→Int) (F:Fun K "numbers_between" "Sheet.numbers_between" fX f fd) (G:Gb mg) (T:Cl K mg C):aK P w K mg base CX0 1 f fd ["self","low","high"] (sD vf C):=by
 refine F.ok AaI (fun vs H Q E h=>?_) (fun cdv A outer s H vs Q E hr h=>?_)
 ·obtain⟨p,pw,d,ws,kvs,l,h,rfl,_⟩:=h
  rfl
 ·obtain⟨p,pw,d,ws,kvs,lo,hi,rfl,S,hv,b1,b2,b3,b4,t⟩:=h
  have hu:=hu_of hr
  refine⟨_,(aJ (bQ (dJ dA (by rfl) G.tuple fJ (aA (lE (NB:=["place","self"]) (n:=1) (js:=[0]) (g:=dX 0) (te:=tDGet (tFld K (jR 1) "results") (jR 0)) (cl:=[("self",s.heap.objs.size+1)]) rfl (by decide +kernel) (by decide +kernel) rfl
    (iJ.of rfl (aN rfl cO) (aN (fun z=>nomatch z) (aN (fun z=>nomatch z) (aN (fun _=>rfl) cO))) rfl
     (fun k j h=>match k,j,h with|0,_,rfl=>rfl|k+1,_,h=>absurd h (by simp)) (aN ⟨.inl rfl,.inl rfl,rfl⟩ cO))
    (jK rfl G.range (aA (pv 1) (aA (pv 2) aE))) (fun C s H fp pn=>bX (i:=0) ndPS rfl (Or.inl rfl) (.inr rfl)) (fun C s H fp pn=>eE)
    (fun C s H fp pn=>yX (by exact hu) (aU (pv 1) rfl) (pv 0) (fun _ _=>rfl))) aE)))),?_⟩
  have sl:sizeLine=16777216:=sizeLine_eq
  obtain⟨⟨dx,h1⟩,hw,hd⟩:=id S
  refine⟨_,rfl,_,rfl,lo,hi,rfl,⟨b1,by omega,by omega,b3⟩,fun acc hacc=>?_⟩
  refine⟨fun i m ys H'=>m=(hi-lo).toNat-i∧i≤(hi-lo).toNat∧ys=row vf lo i∧aL H H'∧H' acc=some (.lst ys),⟨_,rfl,Nat.zero_le _,rfl,aI hacc,aB⟩,?_⟩
  rintro i m ys H' ⟨rfl,hi',rfl,sm,hA⟩
  refine⟨hA,?_⟩
  by_cases hlt:i<(hi-lo).toNat
  ·refine .inr ⟨hlt,?_⟩
   rintro y H'' ⟨rfl,rfl⟩
   refine dD ?_
   refine⟨rfl,?_⟩
   refine eB ?_
   refine eL ?_
   have ev:=hv (lo+i) (by omega) (by omega)
   have dg:jU H'' d (.int (lo+i)) (some (.int (vf (lo+i)))):=by
    have:=jU.k (k:=(Sum.inl (lo+i):Key)) (sm _ _ hd)
    rw [ev] at this
    exact this
   refine⟨_,rfl,p,C,dx,_,_,rfl,sm _ _ h1,T.cl,T.nR,jB _ _,_,rfl,d,_,rfl,dg,hA,by rw [row_len];omega,_,?_,rfl,hlt,?_,fun b o z=>?_,aB⟩
   ·omega
   ·rw [AcH]
   ·rw [aC (aG z hacc)]
    exact sm _ _ z
  ·refine .inl ⟨by show (hi-lo).toNat≤i;omega,?_⟩
   have ei:i=(hi-lo).toNat:=by omega
   rw [ei] at hA
   refine⟨acc,_,rfl,.inl ⟨SqL.of hA,fun r hr'=>?_⟩⟩
   exact t r _ (sm.trans (aI hr')) aB
theorem scAll:aR ["self"] ["self"] (aH sJ):=⟨rfl,rfl,rfl,by decide +kernel,rfl,by decide +kernel,by decide +kernel⟩
theorem ndLS:(["low","high","self"]:List Str).Nodup:=by decide +kernel
theorem ok_all {f fL fB C:Addr} {fd fdL fdB:FuncData} (vf:Int→Int) (F:Fun K "all_results" "Sheet.all_results" sJ f fd) (G:Gb mg) (T:Cl K mg C) (GL:aK P w K mg base CX0 6 fL fdL ["self"] (tY C)) (bL:aP K fdL ["self"] []) (mL:cJ K C "laid_work" fL)
  (GB:aK P w K mg base CX0 1 fB fdB ["self","low","high"] (sD vf C)) (bB:aP K fdB ["self","low","high"] []) (mB:cJ K C "numbers_between" fB):aK P w K mg base CX0 7 f fd ["self"] (sE vf C):=by
 refine F.ok scAll (fun vs H Q E h=>?_) (fun cdv A outer s H vs Q E hr h=>?_)
 ·obtain⟨p,pw,d,ws,kvs,ns,rfl,_⟩:=h
  rfl
 ·obtain⟨p,pw,d,ws,kvs,ns,rfl,S,hh,t⟩:=h
  have hr1:Room 1 _:=hr.mono (by decide)
  refine⟨_,(aJ (bQ (lE (NB:=["low","high","self"]) (n:=2) (js:=[0]) (g:=gTup K 2 (lK (dX 0) (lK (dX 1) gNil))) (cl:=[("self",s.heap.objs.size+1)]) rfl (by decide +kernel) (by decide +kernel) rfl
    (iJ.of rfl (aN rfl cO) (aN (fun z=>nomatch z) (aN (fun z=>nomatch z) (aN (fun z=>nomatch z) (aN (fun _=>rfl) cO)))) rfl
     (fun k j h=>match k,j,h with|0,_,rfl=>rfl|k+1,_,h=>absurd h (by simp)) (aN ⟨.inl rfl,.inl rfl,rfl⟩ cO))
    (gQ (cN (pv 0) T.cl mL GL hr bL .nil aY)) (fun C s H fp pn=>iH (n:=2) rfl (cS (bX (i:=0) ndLS rfl (Or.inl rfl) (.inr rfl)) (cS (bX (i:=1) ndLS rfl (Or.inl rfl) (.inr rfl)) fQ))) (fun C s H fp pn=>eE)
    (fun C s H fp pn=>cF (aA (pv 0) (aA (dQ (pv 2) T.cl mB GB hr1 bB .nil aY (aA (pv 0) (aA (pv 1) aE))) aE)))))),?_⟩
  have sl:sizeLine=16777216:=sizeLine_eq
  obtain⟨⟨dx,h1⟩,hw,hd⟩:=id S
  refine⟨_,rfl,p,dx,_,rfl,h1,gO _ _ (by decide +kernel) (by decide +kernel),p,pw,d,ws,kvs,ns,rfl,S,hh.key,hh.nd,hh.len,fun r ds H1 s1 hr1' sd md ld=>?_⟩
  obtain⟨xs,x1,x2⟩:=id hr1'
  have hlen:=hh.len
  have lx:xs.length=ds.length:=x2.length
  refine⟨r,rfl,⟨_,SqT.of x1⟩,fun acc hacc=>?_⟩
  have hacc0:H acc=none:=s1.free hacc
  refine⟨fun i m ys H'=>m=xs.length-i∧i≤xs.length∧Paired (AeT vf H') ys (ds.take i)∧aL H1 H'∧H' acc=some (.lst ys),⟨_,rfl,Nat.zero_le _,.nil,aI hacc,aB⟩,?_⟩
  rintro i m ys H' ⟨rfl,hi,hP,sm,hA⟩
  refine⟨hA,?_⟩
  have ly:ys.length=i:=by
   have:=hP.length
   rw [List.length_take] at this
   omega
  by_cases hlt:i<xs.length
  ·refine .inr ⟨⟨xs,_,SqT.of (sm _ _ x1),List.getElem?_eq_getElem hlt⟩,?_⟩
   rintro y H'' ⟨rfl,hy⟩
   have ey:=hy xs (SqT.of (sm _ _ x1))
   obtain⟨q,hq,b',rfl,hb'⟩:=bO x2 ey
   have hqm:q ∈ ds:=List.mem_of_getElem? hq
   have qlt:q.1<q.2:=sd.lt q hqm
   have qns:∀x,q.1≤x→x<q.2→x ∈ ns:=fun x z1 z2=>(md x).mp ⟨q,hqm,z1,z2⟩
   have cv:=cover (q.2-q.1).toNat q.1 ns fun i hi=>qns _ (by omega) (by omega)
   have q1:=hh.lo _ (qns q.1 (by omega) qlt)
   have q2:=hh.lo _ (qns (q.2-1) (by omega) (by omega))
   refine⟨b',_,rfl,SqT.of (sm _ _ hb'),rfl,_,_,rfl,_,_,rfl,rfl,rfl,?_⟩
   refine eB ?_
   refine eL ?_
   have S':=S.same (s1.trans sm)
   refine⟨_,rfl,_,rfl,p,dx,_,rfl,sm _ _ (s1 _ _ h1),gO _ _ (by decide +kernel) (by decide +kernel),_,rfl,_,rfl,p,pw,d,ws,kvs,q.1,q.2,rfl,S',fun x z1 z2=>hh.val x (qns x z1 z2),by omega,qlt,by omega,by omega,fun c H2 s2 hc=>?_⟩
   refine⟨by show 2≤sizeLine;decide,fun t' ht=>?_⟩
   have hA2:H2 acc=some (.lst ys):=s2 _ _ hA
   have nt:acc≠t':=aG hA2 ht
   have nc:c≠acc:=aW hc hA2 (by intro z;cases z)
   have st:aL H2 (upd H2 t' (.tup [.int q.1,.ref c])):=aI ht
   have keep:∀b xs',H2 b=some (.tup xs')→(upd (upd H2 t' (.tup [.int q.1,.ref c])) acc (.lst (ys++[.ref t']))) b=some (.tup xs'):=fun b xs' e=>by
    rw [aC (aW e hA2 (by intro z;cases z))]
    exact st _ _ e
   refine⟨by rw [aC nt];exact hA2,by omega,_,?_,rfl,hlt,?_,fun b o z=>?_,aB⟩
   ·omega
   ·rw [List.take_add_one,hq]
    exact cP (bV (fun v q ⟨b,c,z1,z2,z3⟩=>⟨b,c,z1,keep _ _ (s2 _ _ z2),keep _ _ (s2 _ _ z3)⟩) hP) ⟨t',c,rfl,by rw [aC nt.symm];exact aB,keep _ _ hc⟩
   ·rw [aC (aG z hacc),aC (aG (s2 _ _ (sm _ _ z)) ht)]
    exact s2 _ _ (sm _ _ z)
  ·refine .inl ⟨⟨xs,SqT.of (sm _ _ x1),by omega⟩,?_⟩
   have ei:ds.take i=ds:=List.take_of_length_le (by omega)
   rw [ei] at hP
   exact t acc ds ys H' (s1.trans sm) hacc0 hA hP sd md ld
end
end Ls
namespace L2
open PySem PySem.Spec PyProof.Rows
theorem Fun.okE {P:Program} {w:World} {K:PySem.W.Frag} {mg:Str→Option Value} {base:Heap} {x qual:Str} {st:Stmt} {f:Addr} {fd:FuncData} {N ps:List Str} {k:Nat} {sp:Sp} (F:Fun K x qual st f fd) (S:aR N ps (aH st)) (len:∀vs H Q E,sp vs H Q E→vs.length=ps.length)
  (hbody:∀(cdv:Value) (A:Around) (outer:List Env) (s:Shared) (H:Hp) (vs:List V) (Q:VK) (E:XK),Room k (A.deeper (envOfC qual (aH st) s.heap.objs.size f cdv))→sp vs H Q E →
   ∃t,PSs (kO (CXE P w) P w K mg base N qual (aH st) f cdv A outer s H E) (aO st) t∧t { nx:=fun _ H'=>Q .non H',rt:=Q } (dO N vs) H):aK P w K mg base (CXE P w) (k+1) f fd ps sp:=by
 obtain⟨oc,od,kV,doc,pm,an,cdv,ct,osl,rfl,lk,hcd⟩:=F.ex
 exact fn_of lk hcd S len fun A outer s H vs Q E hr hsp=>hbody cdv A outer s H vs Q E hr hsp
theorem wH {K:PySem.W.Frag} {a:Addr} {d:Int} {xs:List V} {g:TG} {tb:TS} {D:jT} {σ:St} {H:Hp} (Pv:Nat→St→Hp→Prop) (h0:Pv 0 σ H) (hl:∀i σ H,i≤xs.length→Pv i σ H→SqT K H a xs)
  (hs:∀i x σ H t,xs[i]?=some x→Pv i σ H→H t=none→g (.ref t) σ (upd H t (.tup [.int (d+i),x])) fun σ2 H2=>tb { D with nx:=Pv (i+1),ct:=Pv (i+1),bk:=D.nx } σ2 H2) (hd:∀ σ H,Pv xs.length σ H→D.nx σ H):
  ∃W:Nat→Nat→St→Hp→Prop,(∃m,W 0 m σ H)∧∀i m σ H,W i m σ H →
   ((Ite K a d).stop i H∧D.nx σ H)∨((Ite K a d).go i H∧∃N:St→Hp→Prop,(∀ σ' H',N σ' H'→∃m',m'<m∧W (i+1) m' σ' H')∧∀x H',(Ite K a d).yld i H x H'→g x σ H' fun σ2 H2=>tb { D with nx:=N,ct:=N,bk:=D.nx } σ2 H2):=by
 refine⟨fun i m σ H=>m=xs.length-i∧i≤xs.length∧Pv i σ H,⟨xs.length,by simp,Nat.zero_le _,h0⟩,?_⟩
 rintro i m σ H ⟨rfl,hi,p⟩
 have q:=hl i σ H hi p
 by_cases hlt:i<xs.length
 ·refine .inr ⟨⟨xs,xs[i],q,by simp [hlt]⟩,Pv (i+1),fun σ' H' p'=>⟨xs.length-(i+1),by omega,rfl,hlt,p'⟩,fun x H' y=>?_⟩
  obtain⟨t,v,ht,rfl,rfl,y⟩:=y
  exact hs i v σ _ t (y xs q) p ht
 ·have e:i=xs.length:=by omega
  subst e
  exact .inl ⟨⟨xs,q,Nat.le_refl _⟩,hd σ H p⟩
end L2
namespace Ls
open PySem L2 PySem.W
def rA (l:Int) (ns:List Int) (i:Nat):List (Key × V):=(List.range i).map fun(k:Nat)=>((Sum.inl (l+(k:Int)):Key),V.int (ns.getD k 0))
theorem AeD (l:Int) (ns:List Int) (i:Nat):(rA l ns i).length=i:=by
 unfold rA
 rw [List.length_map,List.length_range]
theorem AbF (l:Int) (ns:List Int) (i:Nat):rA l ns (i+1)=rA l ns i++[(Sum.inl (l+(i:Int)),V.int (ns.getD i 0))]:=by
 unfold rA
 rw [List.range_succ,List.map_append]
 rfl
theorem rW {kvs:List (Key × V)} {k:Key}:eM kvs k=none↔∀e ∈ kvs,e.1≠k:=by
 unfold eM
 rw [Option.map_eq_none_iff,List.find?_eq_none]
 constructor
 ·intro h e he z
  exact h e he (by rw [z];simp)
 ·intro h e he z
  exact h e he (of_decide_eq_true z)
theorem AeC {kvs:List (Key × V)} {l:Int} {ns:List Int} {i:Nat} (h:eM kvs (Sum.inl (l+(i:Int)):Key)=none):eM (kvs++rA l ns i) (Sum.inl (l+(i:Int)):Key)=none:=by
 rw [rW] at h ⊢
 intro e he
 rcases List.mem_append.mp he with z|z
 ·exact h e z
 ·obtain⟨k,hk,rfl⟩:=List.mem_map.mp z
  intro z
  have:=Sum.inl.inj z
  have:=List.mem_range.mp hk
  omega
structure Tw (K:Frag) (mg:Str→Option Value) (CT:Addr):Prop where
 mT:mg "Twice"=some (.ref CT)
 ex:rK K CT
def spLay (C CT:Addr):Sp:=fun vs H Q E=>∃(p pw d t:Addr) (ws:Lm.Ps) (kvs:List (Key × V)) (l:Int) (ns:List Int),vs=[.ref p,.int l,.ref t]∧cR C H p pw d ws kvs∧H t=some (.tup (ns.map V.int))∧ws.length≤1000∧ns.length≤1000∧kvs.length≤1000 ∧
 -(2 ^ 61)≤l∧l+ns.length≤2 ^ 61∧(∃q ∈ ws,q.1≤l∧l+ns.length≤q.2) ∧
 ((∀i:Nat,i<ns.length→eM kvs (Sum.inl (l+(i:Int)):Key)=none)→∀H',H' d=some (.dK (kvs++rA l ns ns.length))→(∀b o,H b=some o→b≠d→H' b=some o)→Q .non H') ∧
 ((∃i:Nat,i<ns.length∧eM kvs (Sum.inl (l+(i:Int)):Key)≠none)→∀H',aL H H'→E (.ref CT) none H')
theorem zJ {d:Int} (h1:-(2 ^ 61)≤d) (h2:d≤2 ^ 61):Builtin.SmallTypes.fitsIndex d=true:=by
 unfold Builtin.SmallTypes.fitsIndex
 rw [Bool.and_eq_true]
 exact⟨decide_eq_true (by omega),decide_eq_true (by omega)⟩
section
variable {P:Program} {w:World} {K:PySem.W.Frag} {mg:Str→Option Value} {base:Heap}
theorem yN:aR ["self","place","numbers","at","number"] ["self","place","numbers"] (aH sI):=⟨rfl,rfl,rfl,by decide +kernel,rfl,by decide +kernel,by decide +kernel⟩
theorem ok_lay {f C CT fW fN fH:Addr} {fd fdW fdN fdH:FuncData} (F:Fun K "lay" "Sheet.lay" sI f fd) (G:Gb mg) (T:Cl K mg C) (TW:Tw K mg CT)
  (GW:aK P w K mg base CX0 1 fW fdW ["thing"] dW) (kW:keepIn K (.ref fW)=true) (bW:aP K fdW ["thing"] []) (mW:mg "is_whole"=some (.ref fW))
  (GN:aK P w K mg base CX0 2 fN fdN ["thing"] tV) (kN:keepIn K (.ref fN)=true) (bN:aP K fdN ["thing"] []) (mN:mg "is_numbers"=some (.ref fN))
  (GH:aK P w K mg base CX0 1 fH fdH ["self","first","behind"] (tZ C)) (bH:aP K fdH ["self","first","behind"] []) (mH:cJ K C "holds_row" fH):aK P w K mg base (CXE P w) 3 f fd ["self","place","numbers"] (spLay C CT):=by
 refine F.okE yN (fun vs H Q E h=>?_) (fun cdv A outer s H vs Q E hr h=>?_)
 ·obtain⟨p,pw,d,t,ws,kvs,l,ns,rfl,_⟩:=h
  rfl
 ·obtain⟨p,pw,d,t,ws,kvs,l,ns,rfl,S,ht,lw,ln,lk,b1,b2,⟨q,hq,q1,q2⟩,yes,no⟩:=h
  have hu:=hu_of hr
  have hr1:Room 1 _:=hr.mono (by decide)
  refine⟨_,aF (cK (PW.pt (gK (cY (cX (bJ GW hr1 rfl mW kW bW .nil aY (aA (pv 1) aE)))) (eV (cY (cX (bJ GN hr rfl mN kN bN .nil aY (aA (pv 2) aE))))))) (aJ qG) aZ)
   (aF (cK (PW.pt (nA (qD (pv 2) (fun _=>rfl)) (jJ (cY (cX (dQ (pv 0) T.cl mH GH hr1 bH .nil aY (aA (pv 1) (aA (aS cQ (pv 1) (aV cD (by rfl) G.len PySem.boot_len (aA (pv 2) aE))) aE)))))))) (aJ qG) aZ)
   (aF (eG PassesOwn.leaving rfl (jK rfl G.range (aA (pv 1) (aA (aS cQ (pv 1) (aV cD (by rfl) G.len PySem.boot_len (aA (pv 2) aE))) aE))) (bX (i:=3) yN.nd rfl (Or.inl rfl))
    (aJ (cK (AcL (pc_din hu (pv 3) (aU (pv 0) rfl))) (aJ (lC rfl TW.ex rfl TW.mT gJ (aA eY aE))) aZ)))
   (aJ (eG PassesOwn.leaving rfl (yV (by rfl) G.enum tF (aA (pv 2) aE) (oW (pv 1) uI)) (iH (n:=2) rfl (cS (bX (i:=3) yN.nd rfl (Or.inl rfl)) (cS (bX (i:=4) yN.nd rfl (Or.inl rfl)) fQ)))
    (aJ (yS hu (aU (pv 0) rfl) (pv 3) (pv 4) rfl)))))),?_⟩
  have sl:sizeLine=16777216:=sizeLine_eq
  have lm:(ns.map V.int).length=ns.length:=List.length_map ..
  refine⟨_,rfl,_,rfl,.kn (.int _),_,rfl,dS ?_⟩
  refine⟨_,rfl,t,ns,rfl,ht,ln,fun H1 s1=>⟨_,rfl,dS ?_⟩⟩
  have S1:=S.same s1
  obtain⟨⟨dx,h1⟩,hw,hd⟩:=id S1
  have ht1:H1 t=some (.tup (ns.map V.int)):=s1 _ _ ht
  refine⟨_,rfl,!(ns.map V.int).isEmpty,.inr (.inl ⟨_,SqT.of ht1,rfl⟩),?_⟩
  have any_ok:(ws.any fun q=>decide (q.1≤l) && decide (l+(((ns.map V.int).length:Nat):Int)≤q.2))=true:=List.any_eq_true.mpr ⟨q,hq,by rw [decide_eq_true q1,decide_eq_true (by rw [lm];exact q2)];rfl⟩
  refine dU (fun hc=>?_) (fun hc=>?_)
  refine⟨_,rfl,p,dx,_,rfl,h1,gO _ _ (by decide +kernel) (by decide +kernel),_,rfl,_,rfl,_,rfl,t,_,rfl,.inr (SqT.of ht1),_,_,rfl,rfl,p,pw,d,ws,kvs,l,_,rfl,S1,lw,fun H2 s2=>⟨_,rfl,?_⟩⟩
  rw [any_ok]
  refine dS ?_
  have s02:=s1.trans s2
  rotate_left
  refine dS ?_
  have s02:=s1
  all_goals
   have gt:=s02 _ _ ht
   refine⟨_,rfl,_,rfl,_,rfl,t,_,rfl,.inr (SqT.of gt),_,_,rfl,rfl,l,_,rfl,⟨by omega,by omega,by rw [lm];omega,by rw [lm];omega⟩,iE (lo:=l) (n:=(l+(((ns.map V.int).length:Nat):Int)-l).toNat)
    (fun i σ H3=>aL H H3∧(∃v,σ=[some (.ref p),some (.int l),some (.ref t),v,none])∧∀j:Nat,j<i→eM kvs (Sum.inl (l+(j:Int)):Key)=none) ⟨s02,⟨_,rfl⟩,fun j hj=>absurd hj (Nat.not_lt_zero _)⟩ ?_ ?_⟩
   ·rintro i σ H3 hi ⟨sm,⟨v,rfl⟩,hall⟩
    rw [lm] at hi
    obtain⟨⟨dx3,g1⟩,gw,gd⟩:=S.same sm
    refine⟨_,rfl,_,rfl,p,C,dx3,_,_,rfl,g1,T.cl,T.nR,jB _ _,d,_,rfl,jU.k (k:=Sum.inl (l+(i:Int))) gd,_,rfl,?_⟩
    cases e:eM kvs (Sum.inl (l+(i:Int)):Key) with
    | some v=>
     refine eL ?_
     exact⟨by show 1≤sizeLine;decide,no ⟨i,by omega,by rw [e];simp⟩ _ sm⟩
    | none=>
     refine dS ?_
     refine⟨sm,⟨_,rfl⟩,fun j hj=>?_⟩
     by_cases hji:j<i
     ·exact hall j hji
     ·have:j=i:=by omega
      rw [this]
      exact e
   ·rintro σ H3 ⟨sm,⟨v,rfl⟩,hall⟩
    rw [lm] at hall
    have hall':∀j:Nat,j<ns.length→eM kvs (Sum.inl (l+(j:Int)):Key)=none:=fun j hj=>hall j (by omega)
    obtain⟨⟨dx3,g1⟩,gw,gd⟩:=S.same sm
    have hd0:=S.dc
    obtain⟨dx0,hp0⟩:=S.ob
    have ntd:t≠d:=aW ht hd0 (by intro z;cases z)
    have npd:p≠d:=aW hp0 hd0 (by intro z;cases z)
    refine⟨_,rfl,_,rfl,t,l,rfl,rfl,zJ b1 (by omega),⟨_,SqT.of (sm _ _ ht)⟩,wH (K:=K) (a:=t) (d:=l) (xs:=ns.map V.int)
     (fun i σ H4=>(∃u v,σ=[some (.ref p),some (.int l),some (.ref t),u,v])∧H4 d=some (.dK (kvs++rA l ns i))∧∀b o,H b=some o→b≠d→H4 b=some o)
     ⟨⟨_,_,rfl⟩,by rw [gd];simp [rA],fun b o e hb=>sm _ _ e⟩ (fun i σ H4 _ ⟨_,_,kk⟩=>SqT.of (kk _ _ ht ntd)) ?_ ?_⟩
    ·rintro i x σ H4 t' hi ⟨⟨u,v',rfl⟩,hdd,kk⟩ ht'
     have hil:i<ns.length:=by
      have:=(List.getElem?_eq_some_iff.mp hi).1
      omega
     have ex:x=V.int (ns.getD i 0):=by
      rw [List.getElem?_map,List.getElem?_eq_getElem hil] at hi
      rw [← Option.some.inj hi,List.getD_eq_getElem?_getD,List.getElem?_eq_getElem hil]
      rfl
     subst ex
     have ndt:d≠t':=aG hdd ht'
     have npt:p≠t':=aG (kk _ _ hp0 npd) ht'
     refine⟨t',_,rfl,SqT.of aB,rfl,_,_,rfl,_,_,rfl,rfl,?_⟩
     refine⟨_,rfl,_,rfl,p,C,dx0,_,_,rfl,(by rw [aC npt];exact kk _ _ hp0 npd),T.cl,T.nR,jB _ _,_,rfl,d,_,rfl,DPut.k (k:=Sum.inl (l+(i:Int))) (by rw [aC ndt];exact hdd) (by rw [List.length_append,AeD];omega),?_⟩
     refine⟨⟨_,_,rfl⟩,?_,fun b o e hb=>?_⟩
     ·rw [aB,vK _ (AeC (hall' i hil)),List.append_assoc,← AbF]
     ·rw [aC hb,aC (aG (kk b o e hb) ht')]
      exact kk b o e hb
    ·rintro σ H4 ⟨_,hdd,kk⟩
     rw [lm] at hdd
     exact yes hall' H4 hdd kk
end
end Ls
namespace Ls
open PySem L2 PySem.W
def spRes (C:Addr):Sp:=fun vs H Q _=>∃(p pw d:Addr) (ws:Lm.Ps) (kvs:List (Key × V)) (x:V),vs=[.ref p,x]∧cR C H p pw d ws kvs∧Knd H x∧(iP x=false→Q .non H)∧(∀i,x=.int i→Q ((eM kvs (Sum.inl i:Key)).getD .non) H)
section
variable {P:Program} {w:World} {K:PySem.W.Frag} {mg:Str→Option Value} {base:Heap}
theorem scRes:aR ["self","place"] ["self","place"] (aH sH):=⟨rfl,rfl,rfl,by decide +kernel,rfl,by decide +kernel,by decide +kernel⟩
theorem ok_res {f C fW:Addr} {fd fdW:FuncData} (F:Fun K "result_at" "Sheet.result_at" sH f fd) (T:Cl K mg C)
  (GW:aK P w K mg base CX0 1 fW fdW ["thing"] dW) (kW:keepIn K (.ref fW)=true) (bW:aP K fdW ["thing"] []) (mW:mg "is_whole"=some (.ref fW)):aK P w K mg base CX0 2 f fd ["self","place"] (spRes C):=by
 refine F.ok scRes (fun vs H Q E h=>?_) (fun cdv A outer s H vs Q E hr h=>?_)
 ·obtain⟨p,pw,d,ws,kvs,x,rfl,_⟩:=h
  rfl
 ·obtain⟨p,pw,d,ws,kvs,x,rfl,S,kx,no,yes⟩:=h
  have hu:=hu_of hr
  refine⟨_,aF (cK (cY (cX (bJ GW hr rfl mW kW bW .nil aY (aA (pv 1) aE)))) (aJ (bQ eZ)) aZ) (aJ (bQ (AcU hu (aU (pv 0) rfl) (pv 1) (by constructor <;> rfl)))),?_⟩
  obtain⟨⟨dx,h1⟩,hw,hd⟩:=id S
  refine⟨_,rfl,_,rfl,kx,_,rfl,?_⟩
  cases hx:iP x with
  | false=>exact eL (no hx)
  | true=>
   refine dS ?_
   obtain⟨i,rfl⟩:∃i,x=.int i:=by
    cases x <;> first|exact⟨_,rfl⟩|cases hx
   exact⟨_,rfl,p,C,dx,_,_,rfl,h1,T.cl,T.nR,jB _ _,d,rfl,.inl ⟨kvs,.inl hd⟩,_,rfl,_,jU.k (k:=Sum.inl i) hd,yes i rfl⟩
end
end Ls
namespace Ls
open PySem L2 PySem.W
structure Bw (K:Frag) (mg:Str→Option Value) (CW:Addr):Prop where
 mW:mg "BadWork"=some (.ref CW)
 ex:rK K CW
def spRef (CW:Addr):Sp:=fun vs H Q E=>∃(x:V),vs=[x]∧gD H x false∧E (.ref CW) none H
section
variable {P:Program} {w:World} {K:PySem.W.Frag} {mg:Str→Option Value} {base:Heap}
theorem AaQ {f fK CW:Addr} {fd fdK:FuncData} (F:Fun K "check_work" "check_work" kH f fd) (TW:Bw K mg CW) (GK:aK P w K mg base CX0 3 fK fdK ["thing"] tQ) (kp:keepIn K (.ref fK)=true) (bK:aP K fdK ["thing"] []) (mK:mg "is_work"=some (.ref fK)):
  aK P w K mg base (CXE P w) 4 f fd ["work"] (spRef CW):=by
 refine F.okE yO (fun vs H Q E h=>?_) (fun cdv A outer s H vs Q E hr h=>?_)
 ·obtain⟨x,rfl,_⟩:=h
  rfl
 ·obtain⟨x,rfl,hw,q⟩:=h
  refine⟨_,aJ (cK (cY (cX (bJ GK hr rfl mK kp bK .nil aY (aA (pv 0) aE)))) (aJ (lC rfl TW.ex rfl TW.mW gJ (aA eY aE))) aZ),?_⟩
  exact⟨_,rfl,_,false,rfl,hw,_,rfl,eL ⟨by show 1≤sizeLine;decide,q⟩⟩
end
end Ls
namespace L2
open PySem PySem.Spec PyProof.Rows
def uZ (h:Heap) (mg:Str→Option Value):Prop:=∃bm o,mg "__builtins__"=some (.ref bm)∧bm≠builtinsNs∧h.get? bm=some o∧o.cls=.type "module"∧o.dict=some builtinsNs∧o.data=.plain
def OnlyT (ts:List Addr) (H:Hp):Prop:=∀b,H b=none∨(∃o xs,H b=some (.frz o (.lst xs)))∨(b ∈ ts∧H b=some (.tbl #[]))
theorem AaX {P:Program} {w:World} {K:PySem.W.Frag} {mg mb:Str→Option Value} {CX:CXT} {k:Nat} {fa a:Addr} {fd:FuncData} {x:Str} {sp:Sp} {s₁:Shared} {vs:List Value} {ns:List Int} {ts:List Addr}
  (KX:K.In s₁.heap) (hns:s₁.heap.Ns mainGlobals mg) (hb:s₁.heap.Ns builtinsNs mb) (hbb:∀x:Str,x≠"__name__"→mb x=bootBuiltins x) (hlim:s₁.heap.NoLimit) (hg:s₁.gens=#[])
  (hT:∀P ∈ ts,s₁.heap.get? P=some (PySem.W.tabObj #[])) (hKT:PySem.W.noTabs K=true) (hC:∀P ∈ ts,isCodeTable s₁.heap P) (hBm:uZ s₁.heap mg)
  (ha:s₁.heap.get? a=some { cls:=.type "list",data:=.seq vs.toArray }) (hi:IntsAre vs ns) (hl:ns.length≤sizeLine) (hr:Room k callerA)
  (F:∀base:Heap,K.In base→base.Ns mainGlobals mg→uZ base mg→aK P w K mg base CX k fa fd [x] sp) (hbind:∀(s:Shared) (u:Value),BindsTo s fd ⟨[u],[]⟩ [(x,u)])
  (hsp:∀H:Hp,OnlyT ts H→(∀P ∈ ts,H P=some (.tbl #[]))→SqL K H a (ns.map V.int)→sp [.ref a] H (fun v _=>v=.bl true) fun _ _ _=>False)
  (hCX:∀H e s',CX [] H s₁ (fun _ _ _=>False) e s'→False):
  codeAny (model P w) callerA (.call (.ref fa) ⟨[.ref a],[]⟩) (fun r s'=>r=.ok (.ret (.bool true))∧OldK s₁.heap s'.heap∧s'.os=s₁.os∧AllBare s'.gens) s₁:=by
 have rv:=rV hi
 have lenV:=hi.length
 have kT:∀P ∈ ts,K.lookup P=none:=fun p hp=>by
  cases q:K.lookup p with
  | none=>rfl
  | some o=>
   have e:=KX p o q
   rw [hT p hp] at e
   cases e
   exact absurd (List.all_eq_true.mp hKT (p,_) (PySem.W.mem_of_lookupK q)) (by simp)
 have aT:a ∉ ts:=fun hm=>by
  have e:=hT a hm
  rw [ha] at e
  cases e
 have core:∀H:Hp,OnlyT ts H→(∀P ∈ ts,H P=some (.tbl #[]))→SqL K H a (ns.map V.int)→HOk P w H s₁.heap→(∀b,H b≠none→b=a∨b ∈ ts)→(H a≠none→K.lookup a=none) →
   codeAny (model P w) callerA (.call (.ref fa) ⟨[.ref a],[]⟩) (fun r s'=>r=.ok (.ret (.bool true))∧OldK s₁.heap s'.heap∧s'.os=s₁.os∧AllBare s'.gens) s₁:=by
  intro H hO hTs hS hok hA hK
  have base_of:∀{b:Addr} {o:Obj},s₁.heap.get? b=some o→H b=none→(rP s₁.heap H).get? b=some o:=fun e n=>AdV e n
  have noA:∀{b:Addr} {o:Obj} {es:Array DictEntry} {ep:Nat},s₁.heap.get? b=some o→o.data=.dict es ep→H b=none:=fun {b o es ep} e d=>by
   cases q:H b with
   | none=>rfl
   | some u=>
    rcases hA b (by rw [q];simp) with e' | e'
    ·subst e'
     rw [ha] at e;cases e
     have d':Data.seq vs.toArray _=Data.dict es ep:=d
     cases d'
    ·rw [hT b e'] at e;cases e
     have d':Data.fields #[]=Data.dict es ep:=d
     cases d'
  have nsK:∀{b:Addr} {m:Str→Option Value},s₁.heap.Ns b m→(rP s₁.heap H).Ns b m:=fun {b m} ⟨o,es,ep,e,d,r⟩=>⟨o,es,ep,base_of e (noA e d),d,r⟩
  have hKb:K.In (rP s₁.heap H):=fun b o e=>base_of (KX b o e) (by
   cases q:H b with
   | none=>rfl
   | some u=>
    rcases hA b (by rw [q];simp) with e' | e'
    ·subst e'
     rw [hK (by rw [q];simp)] at e;cases e
    ·rw [kT b e'] at e;cases e)
  have hM:Mod K mg (rP s₁.heap H):=⟨hKb,nsK hns,⟨mb,nsK hb,hbb⟩,let ⟨mc,h1,h2⟩:=hlim;⟨mc,nsK h1,h2⟩⟩
  have hBb:uZ (rP s₁.heap H) mg:=by
   obtain⟨bm,ob,b1,b2,b3,b4,b5,b6⟩:=hBm
   refine⟨bm,ob,b1,b2,base_of b3 ?_,b4,b5,b6⟩
   cases q:H bm with
   | none=>rfl
   | some u=>
    rcases hA bm (by rw [q];simp) with e' | e'
    ·subst e'
     rw [ha] at b3;cases b3
     have b4:Value.type "list"=.type "module":=b4
     exact absurd (Value.type.inj b4) (by decide)
    ·rw [hT bm e'] at b3;cases b3;cases b4
  have e0:uY P w K mg (rP s₁.heap H) callerA [] s₁ H:=⟨rfl,hM,fun b o e=>of_hidT e,Nat.le_of_eq (AbB _ _),trivial,fun b hb=>absurd (show b ∈ ([]:List Addr) from hb) (by simp),hok,.of_eq hg⟩
  refine codeAny_mono ((F _ hKb (nsK hns) hBb).run callerA [] s₁ H ⟨[.ref a],[]⟩ [.ref a] [.ref a] _ _ hr e0 (hbind s₁ (.ref a)) (.cons rfl .nil) (hsp H hO hTs hS)) fun r s' h=>?_
  cases r with
  | error e=>exact(hCX H e s' h).elim
  | ok fl=>
   cases fl with
   | next=>exact False.elim h
   | brk=>exact False.elim h
   | cont=>exact False.elim h
   | ret u=>
    obtain⟨v,H',os,bare,un,hok',r',q⟩:=h
    have q':v=.bl true:=q
    subst q'
    obtain rfl:u=Value.bool true:=r'
    refine⟨rfl,⟨fun b o e=>?_,fun b o e=>un.there b o e (by simp)⟩,os,bare⟩
    cases q:H b with
    | none=>exact .inl (un.keep b o e q (by intro z;exact absurd (show b ∈ ([]:List Addr) from z) (by simp)) (by simp))
    | some u=>
     rcases hO b with z|⟨ob,xs,z⟩|⟨hm,z⟩
     ·rw [q] at z;cases z
     ·have z2:=un.frzs b ob _ z
      obtain⟨e1,_⟩:=hok b _ z
      obtain⟨e2,_⟩:=hok' b _ z2
      rw [e] at e1;cases e1
      exact .inl e2
     ·obtain⟨more,z2⟩:=un.tbls b _ z
      have e2:s'.heap.get? b=some { cls:=.none,data:=.fields (#[]++more) }:=hok' b _ z2
      have e3:=hT b hm
      rw [e] at e3;cases e3
      exact .inr (.inl ⟨hC b hm,rfl,#[],more,rfl,e2⟩)
 have dec:∀b,Decidable (b ∈ ts):=fun b=>inferInstance
 have tb:∀b,b ∈ ts→cE P w (fun _=>none) s₁.heap b (.tbl #[]):=fun b hb=>hT b hb
 cases hk:K.lookup a with
 | some o=>
  have e:=KX a o hk
  rw [ha] at e
  cases e
  refine core (fun b=>if b ∈ ts then some (.tbl #[]) else none) (fun b=>?_) (fun p hp=>if_pos hp) (.inr ⟨_,vs.toArray,_,hk,rfl,rfl,rfl,by rw [List.size_toArray,lenV];exact hl,by simpa using rv⟩) (fun b u z=>?_) (fun b z=>?_) fun z=>absurd (if_neg aT) z
  ·by_cases hb:b ∈ ts
   ·exact .inr (.inr ⟨hb,if_pos hb⟩)
   ·exact .inl (if_neg hb)
  ·by_cases hb:b ∈ ts
   ·have z':=(if_pos hb).symm.trans z
    cases z'
    exact hT b hb
   ·have z':=(if_neg hb).symm.trans z
    cases z'
  ·by_cases hb:b ∈ ts
   ·exact .inr hb
   ·exact absurd (if_neg hb) z
 | none=>
  refine core (fun b=>if b=a then some (.frz { cls:=.type "list",data:=.seq vs.toArray } (.lst (ns.map V.int))) else if b ∈ ts then some (.tbl #[]) else none) (fun b=>?_) (fun p hp=>?_) (.inl (.inr ⟨{ cls:=.type "list",data:=.seq vs.toArray },if_pos rfl⟩)) (fun b u z=>?_) (fun b z=>?_) fun _=>hk
  ·by_cases hb:b=a
   ·exact .inr (.inl ⟨_,_,if_pos hb⟩)
   ·by_cases ht:b ∈ ts
    ·exact .inr (.inr ⟨ht,(if_neg hb).trans (if_pos ht)⟩)
    ·exact .inl ((if_neg hb).trans (if_neg ht))
  ·exact(if_neg (fun z:p=a=>aT (by rw [← z];exact hp))).trans (if_pos hp)
  ·by_cases hb:b=a
   ·have z':=(if_pos hb).symm.trans z
    cases z'
    subst hb
    exact⟨ha,by rw [List.length_map];exact hl,vs,_,rv,ha⟩
   ·by_cases ht:b ∈ ts
    ·have z':=((if_neg hb).trans (if_pos ht)).symm.trans z
     cases z'
     exact hT b ht
    ·have z':=((if_neg hb).trans (if_neg ht)).symm.trans z
     cases z'
  ·by_cases hb:b=a
   ·exact .inl hb
   ·by_cases ht:b ∈ ts
    ·exact .inr ht
    ·exact absurd ((if_neg hb).trans (if_neg ht)) z
theorem walk_ofT {l:PySem.W.OpenLaw} {n k:Nat} {q:Program} {loose:List Str} {XP:(Str→Option Value)→Heap→Prop} {YP:World→Heap→Prop} {d:DefRec} {K:Params→PySem.W.Frag} {CX:World→CXT} {sp:World→Sp} {x:Str} {ts:List Addr}
  (hn:l.most=some n) (hn2:n≤sizeLine) (hdf:d.params.defaults=[]) (hr:Room k callerA)
  (hY:∀(w:World) (h:Heap),YP w h→(K w.params).In h∧PySem.W.noTabs (K w.params)=true∧∀p ∈ ts,h.get? p=some (PySem.W.tabObj #[])∧isCodeTable h p)
  (F:∀(w:World) (mg:Str→Option Value) (fa:Addr) (h:Heap),(K w.params).In h→h.Ns mainGlobals mg→mg d.name=some (.ref fa) →
   ∃fd:FuncData,(∀(s:Shared) (u:Value),BindsTo s fd ⟨[u],[]⟩ [(x,u)]) ∧
    ∀base:Heap,(K w.params).In base→base.Ns mainGlobals mg→uZ base mg→aK l.prog w (K w.params) mg base (CX w) k fa fd [x] (sp w))
  (hsp:∀(w:World) (H:Hp) (a:Addr) (ns:List Int),ns.length≤n→OnlyT ts H→(∀P ∈ ts,H P=some (.tbl #[]))→SqL (K w.params) H a (ns.map V.int)→sp w [.ref a] H (fun v _=>v=.bl true) fun _ _ _=>False)
  (hCX:∀(w:World) (H:Hp) (s:Shared) (e:Value) (s':Shared),CX w [] H s (fun _ _ _=>False) e s'→False):
  PySem.W.WalkO q loose XP YP l.row.toRowW d [] (fun f vs=>PySem.call f vs):=by
 refine Att.attach_call hn hdf fun w s₀ s₁ mg mb fa o pm cd doc a vs ns G Y ho hd hcd hmg hobj hints hlen hg=>?_
 obtain⟨KX,hKT,hTs⟩:=hY w _ Y
 obtain⟨fd,hb,hF⟩:=F w mg fa _ KX G.T.g hmg
 exact AaX KX G.T.g G.T.b G.T.builtins G.T.nolimit hg (fun p hp=>(hTs p hp).1) hKT (fun p hp=>(hTs p hp).2) (let ⟨bm,ob,b1,b2,b3,b4,b5,b6⟩:=G.T.bmain;⟨bm,ob,b1,b2,b3,b4,b5,b6⟩) hobj hints (Nat.le_trans hlen hn2) hr hF hb (fun H hO hT hS=>hsp w H a ns hlen hO hT hS) fun H e s'=>hCX w H s₁ e s'
end L2
namespace L2
open PySem PySem.Spec PyProof.Rows
def oN (c:Addr) (q:Str):HO:=.ext fun h=>h.CodeRec (.ref c) q
def funO (f:Addr) (o:Obj):HO:=.ext fun h=>h.get? f=some o
def Tab (H:Hp) (T:Addr) (pos:Pos) (q:Str):Prop:=∃ps,H T=some (.tbl ps)∧TriplesOk ps.toList∧(codeAmong pos ps.toList=none∨∃c',codeAmong pos ps.toList=some (.ref c')∧H c'=some (oN c' q))
def dY (T:Addr) (H H':Hp):Prop:=∀b o,b≠T→H b=some o→H' b=some o
theorem AeK {P:Program} {w:World} {H:Hp} {h:Heap} {c:Addr} {q:Str} (x:h.CodeRec (.ref c) q):cE P w H h c (oN c q):=by
 refine⟨x,?_,fun h1 h2 y k=>?_⟩
 ·obtain⟨c₂,o,vs,t,e,g,_⟩:=x
  cases e
  exact⟨o,g⟩
 ·obtain⟨c₂,o,vs,t,e,g,r⟩:=y
  cases e
  exact⟨c,o,vs,t,rfl,k _ g,r⟩
theorem zI {P:Program} {w:World} {H:Hp} {h:Heap} {f:Addr} {o:Obj} (x:h.get? f=some o):cE P w H h f (funO f o):=⟨x,⟨o,x⟩,fun h1 h2 y k=>k _ y⟩
section
variable {X:Cx} {pins:List (Addr × Obj)} {σ:List (Option V)} {H:Hp} {s:Shared}
theorem Inv.madeNew {h':Heap} {T c':Addr} {q:Str} {ps more:Array Value} {o:Obj} {tk:Nat} (I:Inv X pins σ H s) (hT:H T=some (.tbl ps)) (hx:Heap.ExtBut T s.heap h') (hge:s.heap.objs.size≤c') (hlt:c'<h'.objs.size)
  (hrec:h'.CodeRec (.ref c') q) (htb:h'.get? T=some (PySem.W.tabObj (ps++more))) (hcl:o.isFreed=false):
  Inv X pins σ (upd (upd (upd H T (.tbl (ps++more))) c' (oN c' q)) h'.objs.size (funO h'.objs.size o)) { s with heap:=h'.push o,toks:=tk }:=by
 have nc:H c'=none:=I.hok.fresh hge
 have nf:H h'.objs.size=none:=I.hok.fresh (Nat.le_trans hge (Nat.le_of_lt hlt))
 have at':∀b u,b≠T→H b=some u→(upd (upd (upd H T (.tbl (ps++more))) c' (oN c' q)) h'.objs.size (funO h'.objs.size o)) b=some u:=fun b u hb e=>by
  rw [aC (aG e nf),aC (aG e nc),aC hb]
  exact e
 have neT:∀b u,H b=some u→u≠.tbl ps→b≠T:=fun b u e n z=>by
  subst z
  rw [hT] at e
  exact n (Option.some.inj e).symm
 have noT:∀b,H b=none→b≠T:=fun b e z=>by rw [z,hT] at e;cases e
 have Tc:T≠c':=aG hT nc
 have Tf:T≠h'.objs.size:=aG hT nf
 have kp:∀b u,b≠T→s.heap.get? b=some u→(h'.push o).get? b=some u:=fun b u hb e=>Heap.get?_push_of_some _ (hx b u hb e)
 refine I.un ⟨fun b u e n _ _=>kp b u (noT b n) e,fun b u e n _ _=>⟨u.slots,kp b u (noT b n) e⟩,fun b u e n _=>?_,fun b u e _=>?_,fun b xs e=>at' b _ (neT b _ e (by intro z;cases z)) e,fun b ob u e=>at' b _ (neT b _ e (by intro z;cases z)) e,fun b qs e=>?_⟩ fun b u e=>?_
 ·have hb:=Heap.lt_size e
  have h1:b≠c':=Nat.ne_of_lt (Nat.lt_of_lt_of_le hb hge)
  have h2:b≠h'.objs.size:=Nat.ne_of_lt (Nat.lt_trans (Nat.lt_of_lt_of_le hb hge) hlt)
  rw [aC h2,aC h1,aC (noT b n)]
  exact n
 ·by_cases hb:b=T
  ·subst hb
   exact⟨_,Heap.get?_push_of_some _ htb⟩
  ·exact⟨u,kp b u hb e⟩
 ·by_cases hb:b=T
  ·subst hb
   rw [hT] at e
   cases e
   exact⟨more,by rw [aC Tf,aC Tc,aB]⟩
  ·exact⟨#[],by rw [at' b _ hb e];simp⟩
 ·by_cases hf:b=h'.objs.size
  ·subst hf
   rw [aB] at e
   cases e
   exact zI (Heap.get?_push_size _ hcl)
  ·rw [aC hf] at e
   by_cases hc:b=c'
   ·subst hc
    rw [aB] at e
    cases e
    exact AeK (hrec.push o)
   ·rw [aC hc] at e
    by_cases hb:b=T
    ·subst hb
     rw [aB] at e
     cases e
     exact Heap.get?_push_of_some _ htb
    ·rw [aC hb] at e
     refine(I.hok b u e).stay (fun c v hc' g=>kp c v ?_ g) (fun c z=>at' c _ (neT c _ z (by intro y;cases y)) z) fun c xs z=>at' c _ (neT c _ z (by intro y;cases y)) z
     rcases hc' with rfl|z
     ·exact hb
     ·exact neT c _ z (by intro y;cases y)
end
def tLam (T:Addr) (pos:Pos) (q:Str) (mk:Addr→Value→Obj):TE:=fun _ H Q=>Tab H T pos q∧∀f c' ctv H',dY T H H'→H f=none→Tab H' T pos q→H' c'=some (oN c' q)→H' f=some (funO f (mk c' ctv))→Q (.ref f) H'
section
variable {X:Cx}
theorem AcT {params:Arguments} {body:Expr} {scope:Scope} {pos:Pos} {c T:Addr} {clos:List (Str × Addr)} {q:Str} (hcode:X.env.code=.ref c) (hc:PySem.W.codeHdIn X.K c T=true) (hbm:uZ X.base X.mg)
  (hdef:defaultsOf params X.env=([],[])) (hcl:closureFor scope X.env=pure clos) (hq:X.env.qual++"<lambda>"=q) (hline:True):
  PE X (.Lambda params body scope pos) (tLam T pos q fun c' ctv=>PySem.W.kla_obj "<lambda>" q params body scope clos ((X.mg "__name__").getD .none) c' ctv):=by
 intro pins s σ H Q I h
 obtain⟨⟨ps,hT,ht,hcase⟩,h⟩:=h
 subst hq
 have hg:s.heap.Ns mainGlobals X.mg:=I.ok.mod.glob.keeps I.bk
 have hTs:s.heap.get? T=some (PySem.W.tabObj ps):=I.hok T _ hT
 have C:PySem.W.CodeHd s.heap c T:=PySem.W.codeHd_of_K I.kIn hc
 have hgT:mainGlobals≠T:=fun z=>by
  obtain⟨o,es,ep,e,hd,_⟩:=hg
  rw [z,hTs] at e;cases e;cases hd
 have hb:s.heap.BuiltinsAt X.mg T:=by
  obtain⟨bm,ob,b1,b2,b3,b4,b5,b6⟩:=hbm
  have b3':=I.bk _ _ b3
  refine⟨bm,ob,b1,b2,fun z=>?_,fun z=>?_,b3',b4,b5,b6⟩
  ·obtain⟨o,es,ep,e,hd,_⟩:=hg
   rw [z,e] at b3';cases b3'
   rw [hd] at b6;cases b6
  ·rw [z,hTs] at b3';cases b3'
   cases b4
 refine PySem.W.kla_eval hdef ?_
 rcases hcase with hnf|⟨c',hf,hC⟩
 ·refine PySem.W.kla_makeFunction hcl I.ok.glob hg hcode C hTs ht hnf hgT hb fun c' ctv h' tk hx hge hlt hrec htb=>?_
  have nc:H c'=none:=I.hok.fresh hge
  have nf:H h'.objs.size=none:=I.hok.fresh (Nat.le_trans hge (Nat.le_of_lt hlt))
  have Tc:T≠c':=aG hT nc
  have Tf:T≠h'.objs.size:=aG hT nf
  have ne:c'≠h'.objs.size:=Nat.ne_of_lt hlt
  have J:=I.madeNew (tk:=tk) (o:=PySem.W.kla_obj "<lambda>" (X.env.qual++"<lambda>") params body scope clos ((X.mg "__name__").getD .none) c' ctv) hT hx hge hlt hrec htb rfl
  refine⟨.ref h'.objs.size,_,J,rfl,h h'.objs.size c' ctv _ (fun b o hb e=>?_) nf ⟨_,by rw [aC Tf,aC Tc,aB],?_,.inr ⟨c',?_,?_⟩⟩ ?_ aB⟩
  ·rw [aC (aG e nf),aC (aG e nc),aC hb]
   exact e
  ·rw [Array.toList_append]
   exact TriplesOk_snoc _ _ _ _ ht
  ·rw [Array.toList_append]
   exact codeAmong_snoc _ ht hnf
  ·rw [aC ne,aB]
  ·rw [aC ne,aB]
 ·refine PySem.W.kla_makeFunctionHit hcl I.ok.glob hg hcode C hTs ht hf hb fun ctv h' tk hk hsz=>?_
  have nf:H h'.objs.size=none:=I.hok.fresh hsz
  refine⟨.ref h'.objs.size,_,I.laid (a:=h'.objs.size) (t':=tk) (fun b u e=>Heap.get?_push_of_some _ (hk b u e)) hsz (zI (Heap.get?_push_size _ rfl)),rfl,h h'.objs.size c' ctv _ (fun b o hb e=>?_) nf ⟨ps,?_,ht,.inr ⟨c',hf,?_⟩⟩ ?_ aB⟩
  ·rw [aC (aG e nf)]
   exact e
  ·rw [aC (aG hT nf)]
   exact hT
  ·rw [aC (aG hC nf)]
   exact hC
  ·rw [aC (aG hC nf)]
   exact hC
end
end L2
namespace L2
open PySem PySem.Spec PyProof.Rows
theorem lam_run {CX:CXT} {P:Program} {w:World} {K:PySem.W.Frag} {mg:Str→Option Value} {base:Heap} {k:Nat} {f c':Addr} {q:Str} {params:Arguments} {body:Expr} {scope:Scope} {pm ctv:Value} {N ps:List Str} {A:Around} {outer:List Env} {s:Shared} {H:Hp} {args:Args} {us:List Value} {vs:List V} {Q:VK} {E:XK}
  (hf:H f=some (funO f (PySem.W.kla_obj "<lambda>" q params body scope [] pm c' ctv))) (hc:H c'=some (oN c' q)) (S:aR N ps scope) (hr:Room (k+1) A) (e0:uY P w K mg base A outer s H)
  (hb:bindArgs (PySem.W.kla_fn "<lambda>" q params body scope [] pm (.ref c') ctv) args=pure (ps.zip us)) (r:cB vs us) (hl:vs.length=ps.length)
  (hbody:Room k (A.deeper (envOfC q scope s.heap.objs.size f (.ref c')))→∃t,PE (kO CX P w K mg base N q scope f (.ref c') A outer s H E) body t∧t (dO N vs) H Q):
  codeAny (model P w) A (.call (.ref f) args) (CR CX outer P w H s Q E) s:=by
 have lim:s.heap.NoLimit:=e0.mod.nolimit.keeps fun b o e=>(e0.bs b o e).1
 have hkind:∀y ∈ ps.zip us,scope.names.lookup y.1=some .local∨(scope.names.lookup y.1=some .cell∧((cellsFrom (s.heap.objs.size+1) scope.names []).lookup y.1).isSome=true):=fun⟨n,v⟩ hy=>by
  rcases S.par n (List.of_mem_zip hy).1 with q|q
  ·exact .inl q
  ·exact .inr ⟨q,PySem.W.cellsFrom_some _ _ _ (.inl q)⟩
 obtain⟨ho,_,_⟩:=e0.hok f _ hf
 obtain⟨hcd,_,_⟩:=e0.hok c' _ hc
 have ho:s.heap.get? f=some (PySem.W.kla_obj "<lambda>" q params body scope [] pm c' ctv):=ho
 have hcd:s.heap.CodeRec (.ref c') q:=hcd
 refine PySem.W.kla_callFunE hr.depth ho rfl S.co S.gen rfl hcd ?_
 rw [hb]
 refine wpAny_pure ?_
 refine wpAny_newFunctionEnv_cells S.kind hkind fun env he s1 x=>?_
 subst he
 refine⟨lim.keeps x.toInCall.keep,PySem.W.kla_codeExpr ?_⟩
 obtain⟨t,ht,hq⟩:=hbody (hr.deeper _)
 have I:Inv (kO CX P w K mg base N q scope f (.ref c') A outer s H E) [] (dO N vs) H s1:=sY S hr.hd e0 hl r x
 refine wpAny_mono (ht [] s1 (dO N vs) H _ I hq) (fun u s' hs=>?_) fun e s' hs=>hs
 obtain⟨v,H',J,rv,z⟩:=hs
 exact⟨v,H',J.os,J.bare,J.base,J.hok,rv,z⟩
end L2
namespace L2
open PySem PySem.Spec PyProof.Rows PySem.W
section
variable {X:Cx}
theorem Inv.as_at {pins:List (Addr × Obj)} {σ:St} {H:Hp} {s:Shared} {a:Addr} {u u':HO} (I:Inv X pins σ H s) (e:H a=some u) (n1:∀xs,u≠.tup xs) (n2:∀ps,u≠.tbl ps) (n3:∀x,u≠.own x) (nf:∀o v,X.H₀ a≠some (.frz o v)) (new:cE X.prog X.w (upd H a u') s.heap a u'):Inv X pins σ (upd H a u') s:=by
 have ne:∀b,H b=none→b≠a:=fun b n z=>by
  rw [z,e] at n
  cases n
 refine⟨I.ok,I.os,I.bare,⟨I.base.keep,I.base.slot,fun b o q n hx=>?_,I.base.there,fun b xs q=>?_,fun b o v q=>?_,fun b ps q=>?_⟩,I.loc,I.cell,?_,fun x c q=>?_,fun p hp=>?_,fun b o q=>?_,I.len⟩
 ·have z:=I.base.free b o q n hx
  rw [aC (ne b z)]
  exact z
 ·have z:=I.base.tups b xs q
  rw [aC (fun y=>by rw [y,e] at z;exact n1 xs (Option.some.inj z))]
  exact z
 ·rw [aC (fun y=>nf o v (by rw [← y];exact q))]
  exact I.base.frzs b o v q
 ·obtain⟨m,z⟩:=I.base.tbls b ps q
  exact⟨m,by rw [aC (fun y=>by rw [y,e] at z;exact n2 _ (Option.some.inj z))];exact z⟩
 ·rw [aC (ne _ I.free)]
  exact I.free
 ·rw [aC (ne _ (I.freeC x c q))]
  exact I.freeC x c q
 ·obtain⟨z1,z2,z3⟩:=I.pin p hp
  exact⟨z1,by rw [aC (ne _ z2)];exact z2,z3⟩
 ·by_cases hb:b=a
  ·subst hb
   rw [aB] at q
   cases q
   exact new
  ·rw [aC hb] at q
   refine(I.hok b o q).stay (fun c w' _ r=>r) (fun c z=>?_) fun c xs z=>?_
   ·rw [aC (fun y=>by rw [y,e] at z;exact n3 _ (Option.some.inj z))]
    exact z
   ·rw [aC (fun y=>by rw [y,e] at z;exact n1 _ (Option.some.inj z))]
    exact z
theorem cE.dK_at {P:Program} {w:World} {H H':Hp} {h:Heap} {a:Addr} {kvs:List (Key × V)} (q:cE P w H h a (.dK kvs)):cE P w H' h a (.dK kvs):=q
theorem Inv.thaw {pins:List (Addr × Obj)} {σ:St} {H:Hp} {s:Shared} {a:Addr} {o:Obj} {kvs:List (Key × V)} (I:Inv X pins σ H s) (e:H a=some (.frz o (.dK kvs))) (nf:∀o v,X.H₀ a≠some (.frz o v)):Inv X pins σ (upd H a (.dK kvs)) s:=by
 obtain⟨_,q⟩:=(show cE X.prog X.w H s.heap a (.frz o (.dK kvs)) from I.hok a _ e)
 exact I.as_at e (fun _ z=>nomatch z) (fun _ z=>nomatch z) (fun _ z=>nomatch z) nf q.dK_at
theorem Inv.freeze {pins:List (Addr × Obj)} {σ:St} {H:Hp} {s:Shared} {a:Addr} {kvs:List (Key × V)} (I:Inv X pins σ H s) (e:H a=some (.dK kvs)):∃o,s.heap.get? a=some o∧Inv X pins σ (upd H a (.frz o (.dK kvs))) s:=by
 have q:=(show cE X.prog X.w H s.heap a (.dK kvs) from I.hok a _ e)
 obtain⟨o,ho⟩:=q.is
 refine⟨o,ho,I.as_at e (fun _ z=>nomatch z) (fun _ z=>nomatch z) (fun _ z=>nomatch z) (fun o' v z=>?_) ⟨ho,q.dK_at⟩⟩
 have:=I.base.frzs a o' v z
 rw [e] at this
 cases this
def sThaw (H0:Hp) (t:TS):TS:=fun D σ H=>t { D with nx:=fun σ1 H1=>∃a o kvs,H1 a=some (.frz o (.dK kvs))∧(∀o v,H0 a≠some (.frz o v))∧D.nx σ1 (upd H1 a (.dK kvs)) } σ H
theorem ps_thaw {st:Stmt} {t:TS} (h:PS X st t):PS X st (sThaw X.H₀ t):=fun pins s σ H D I q=>thn (h pins s σ H _ I q) fun f s1 z=>by
 cases f with
 | next=>
  obtain⟨σ1,H1,I1,a,o,kvs,z1,z2,z3⟩:=z
  exact⟨σ1,_,I1.thaw z1 z2,z3⟩
 | _=>exact z
end
end L2
namespace L2
open PySem PySem.Spec PyProof.Rows PySem.W
theorem zM {X:Cx} {pins:List (Addr × Obj)} {σ:St} {H:Hp} {s:Shared} {a:Addr} {o:Obj} {kvs:List (Key × V)} {es:Array DictEntry} {ep:Nat} (I:Inv X pins σ H s) (e:H a=some (.frz o (.dK kvs))) (hd:o.data=.dict es ep):
  ∃vs,KV kvs vs∧s.heap.DictAt (cV X.prog X.w) a vs ep:=by
 obtain⟨g,_,_,vs,r,o',es',ep',q,c,d,k1,k2,k3⟩:=(show cE X.prog X.w H s.heap a (.frz o (.dK kvs)) from I.hok a _ e)
 rw [g] at q
 cases q
 rw [hd] at d
 cases d
 exact⟨vs,r,o,es,g,c,hd,k1,k2,k3⟩
section
variable {X:Cx} {tg:Expr}
end
end L2
namespace L2
open PySem PySem.Spec PyProof.Rows PySem.W
section
variable {prog:Program} {w:World} {A:Around} {E:Value→Shared→Prop} {s:Shared}
end
end L2
namespace L2
open PySem PySem.Spec PyProof.Rows PySem.W
section
variable {prog:Program} {w:World} {A:Around} {E:Value→Shared→Prop} {s:Shared}
end
section
variable {X:Cx}
end
end L2
namespace L2
open PySem PySem.Spec PyProof.Rows PySem.W
section
variable {prog:Program} {w:World} {A:Around} {E:Value→Shared→Prop} {s:Shared}
end
end L2
namespace L2
open PySem PySem.Spec PyProof.Rows PySem.W
section
variable {prog:Program} {w:World} {A:Around} {E:Value→Shared→Prop}
end
end L2
namespace L2
open PySem PySem.Spec PyProof.Rows PySem.W
section
variable {X:Cx}
end
end L2
namespace L2
open PySem PySem.Spec PyProof.Rows PySem.W
section
variable {X:Cx}
def Its (x:Str):It:=⟨fun i _=>i<x.length,fun i H v H'=>H'=H∧∃c,x.cps[i]?=some c∧v=.str ⟨#[c]⟩,fun i _=>x.length≤i⟩
theorem AbU {P:Program} {w:World} {K:PySem.W.Frag} {tg:Expr} (x:Str) (t:Tok) (it:Addr):Turn P w K tg (Its x) [it] it (fun i h=>h.IsStrIter it "str_ascii_iterator" x t i) where
 mem:=by simp
 obj:=fun i h st b hb=>by
  have e:b=it:=by simpa using hb
  subst e
  obtain⟨o,e,c,d⟩:=st
  exact⟨o,e,fun v z=>by rw [d] at z;cases z⟩
 keep:=fun i h h' st k=>by
  obtain⟨o,e,c,d⟩:=st
  exact⟨o,k it (by simp) o e,c,d⟩
 item:=by
  intro X hP hw hK hc i pins s σ H E I hf st hg
  subst hP hw hK
  have hi:i<x.cps.size:=hg
  obtain⟨f0,f1,f2,f3,f4,f5⟩:=hf it (by simp)
  refine wpAny_pyNext_ascii_item st (Array.getElem?_eq_getElem hi) fun h' st' sb=>?_
  have I1:Inv X pins σ H { s with heap:=h',toks:=s.toks+1 }:=I.turned (fun b o hb e=>(sb.2 b hb).trans e) f0 f1 f3 f4 f5
  obtain⟨oi,ei,ci,di⟩:=id st'
  exact⟨_,rfl,wF (s:={ s with heap:=h',toks:=s.toks+1 }) ei ci di (by decide) ⟨.str _,H,I1,⟨_,rfl⟩,⟨rfl,_,Array.getElem?_eq_getElem hi,rfl⟩,st',fun b hb=>(hf b hb).1⟩⟩
 done:=by
  intro X hP hw hK hc i pins s σ H E I hf st hg
  subst hP hw hK
  have hi:x.cps.size≤i:=hg
  obtain⟨f0,f1,f2,f3,f4,f5⟩:=hf it (by simp)
  exact wpAny_pyNext_ascii_end (I.ok.hd hc) st (Array.getElem?_eq_none hi) fun h' eb=>⟨rfl,I.turned (t':=s.toks) (fun b o hb e=>eb b o hb e) f0 f1 f3 f4 f5⟩
 self:=fun _ _ _ _ _ st h=>wpAny_pyIter_striter_ascii st h
def iStr (tl:TE):TI:=fun σ H R=>tl σ H fun v H1=>∃x,v=.str x∧x.cps.all (·<128)=true∧R (Its x) H1
theorem pi_str {tg l:Expr} {tl:TE} (hl:PE X l tl):PI X tg l (iStr tl):=by
 intro pins s σ H R I h
 refine thn (hl pins s σ H _ I h) fun v s1 ⟨y,H1,I1,r1,q1⟩=>?_
 obtain⟨x,rfl,ha,q⟩:=q1
 obtain⟨t,rfl⟩:=r1
 refine wpAny_pyIter_ascii ha ?_
 refine⟨s1.heap.objs.size,[s1.heap.objs.size],_,_,H1,rfl,I1.kept (t':=s1.toks) fun b o e=>Heap.get?_push_of_some _ e,AbU x t _,⟨_,Heap.get?_push_size _ rfl,rfl,rfl⟩,fun b hb=>?_,q⟩
 have e:b=s1.heap.objs.size:=by simpa using hb
 subst e
 exact I1.fpOk (Nat.le_refl _) (I1.hok.fresh (Nat.le_refl _))
end
end L2
namespace L2
open PySem PySem.Spec PyProof.Rows PySem.W
section
variable {X:Cx}
end
end L2
namespace L2
open PySem PySem.Spec PyProof.Rows PySem.W
section
variable {X:Cx} {e:Expr} {apos cpos p:Pos} {ty:TE}
end
end L2
namespace Sr
open PySem PyProof.Rows
section
variable {M:Model} {A:Around} {E:Value→Shared→Prop} {s:Shared} {st:SortSt}
end
end Sr
namespace Sr
open PySem PyProof.Rows
structure Cmp (prog:Program) (w:World) (A:Around) (E:Value→Shared→Prop) (s:Shared) (κ:SortKind) (a₀:Array Keyed) (rk:Keyed→Int):Prop where
 lt:∀{x y:Keyed} {st:SortSt} {Q:Option Bool→SortSt→Prop},x ∈ a₀.toList→y ∈ a₀.toList→kindOf st=κ→Q (some (decide (rk x<rk y))) st→wpS (model prog w) A E s (lt' x y) Q st
structure SB (κ:SortKind) (a₀:Array Keyed) (st:SortSt):Prop where
 perm:(arrOf st).Perm a₀
 kind:kindOf st=κ
 failed:failedOf st=none
theorem SB.size {κ:SortKind} {a₀:Array Keyed} {st:SortSt} (h:SB κ a₀ st):(arrOf st).size=a₀.size:=h.perm.size_eq
theorem SB.at {κ:SortKind} {a₀:Array Keyed} {st:SortSt} (h:SB κ a₀ st) {i:Nat} (hi:i<a₀.size):∃p,(arrOf st)[i]?=some p∧p ∈ a₀.toList:=by
 have hi':i<(arrOf st).size:=by rw [h.size];exact hi
 exact⟨_,getElem?_pos _ i hi',(Array.perm_iff_toList_perm.mp h.perm).mem_iff.mp (by simp)⟩
def R (rk:Keyed→Int) (xs:Array Keyed) (i:Nat):Int:=match xs[i]? with
 | some p=>rk p
 | none=>0
def Seg (rk:Keyed→Int) (xs:Array Keyed) (lo hi:Nat):Prop:=∀i j,lo≤i→i≤j→j<hi→R rk xs i≤R rk xs j
theorem R_at {rk:Keyed→Int} {xs:Array Keyed} {i:Nat} {p:Keyed} (h:xs[i]?=some p):R rk xs i=rk p:=by unfold R;rw [h]
section
variable {prog:Program} {w:World} {A:Around} {E:Value→Shared→Prop} {s:Shared} {κ:SortKind} {a₀:Array Keyed} {rk:Keyed→Int}
theorem vA {st:SortSt} {xs:Array Keyed} {i:Nat} {p:Keyed} {Q:Keyed→SortSt→Prop} (e:xs[i]?=some p) (h:Q p st):wpS (model prog w) A E s (elem' xs i) Q st:=by
 rw [elem'_eq,e]
 exact wpS_pure h
theorem wpS_ask {st:SortSt} {i j:Nat} {Q:Option Bool→SortSt→Prop} (C:Cmp prog w A E s κ a₀ rk) (hB:SB κ a₀ st) (hi:i<a₀.size) (hj:j<a₀.size)
  (h:Q (some (decide (R rk (arrOf st) i<R rk (arrOf st) j))) st):wpS (model prog w) A E s (ltAt' i j) Q st:=by
 obtain⟨p,e1,m1⟩:=hB.at hi
 obtain⟨q,e2,m2⟩:=hB.at hj
 rw [ltAt'_eq]
 refine wpS_bind (wpS_get ?_)
 refine wpS_bind (vA e1 (wpS_bind (vA e2 ?_)))
 refine C.lt m1 m2 hB.kind ?_
 rw [R_at e1,R_at e2] at h
 exact h
abbrev AS:=Option (Option Nat) × Nat
abbrev DS:=Option (Option Nat) × Nat × Nat
def ascL (lo a m:Nat):StateT SortSt Sem AS:=
 forIn [a:m] ((none,a):AS) fun _ c=>do
  let x ← ltAt' (lo+c.2) (lo+c.2-1)
  match x with
  | some b=>if b=true then pure (ForInStep.done (none,c.2)) else pure (ForInStep.yield (none,c.2+1))
  | _=>pure (ForInStep.done (some none,c.2))
def endL (lo n m:Nat):StateT SortSt Sem (Option Nat):=do
 reverseSlice' lo (lo+n)
 let c ← ascL lo n m
 match c.1 with
 | some r=>pure r
 | none=>pure (some c.2)
def descL (lo n m:Nat):StateT SortSt Sem DS:=
 forIn [n:m] ((none,n,0):DS) fun _ c=>do
  let x ← ltAt' (lo+c.2.1) (lo+c.2.1-1)
  match x with
  | some b=>
   if b=true then
    if c.2.2 > 0 then do
     reverseSlice' (lo+c.2.1-(c.2.2+1)) (lo+c.2.1)
     pure (ForInStep.yield (none,c.2.1+1,0))
    else pure (ForInStep.yield (none,c.2.1+1,0))
   else do
    let x ← ltAt' (lo+c.2.1-1) (lo+c.2.1)
    match x with
    | some d=>if d=true then pure (ForInStep.done (none,c.2.1,c.2.2)) else pure (ForInStep.yield (none,c.2.1+1,c.2.2+1))
    | _=>pure (ForInStep.done (some none,c.2.1,c.2.2))
  | _=>pure (ForInStep.done (some none,c.2.1,c.2.2))
def fallL (lo n m:Nat):StateT SortSt Sem (Option Nat):=do
 liftM (rule "list.sort.descending-run")
 let c ← descL lo (n+1) m
 match c.1 with
 | some r=>pure r
 | none=>
  if c.2.2 > 0 then do
   reverseSlice' (lo+c.2.1-(c.2.2+1)) (lo+c.2.1)
   endL lo c.2.1 m
  else endL lo c.2.1 m
theorem AbJ (lo m:Nat):countRun' lo m=(do
  let c ← ascL lo 1 m
  match c.1 with
  | some r=>pure r
  | none=>
   if (c.2 == m)=true then pure (some c.2)
   else if c.2 > 1 then do
    let x ← ltAt' lo (lo+c.2-1)
    match x with
    | some b=>if b=true then pure (some c.2) else do
      reverseSlice' lo (lo+c.2)
      fallL lo c.2 m
    | _=>pure none
   else fallL lo c.2 m):=by
 rw [countRun'_eq]
 unfold fallL endL descL ascL
 dsimp only
 congr 1
 funext c
 obtain⟨r,n⟩:=c
 cases r with
 | some r=>rfl
 | none=>
  dsimp only
  split
  ·rfl
  ·split
   ·congr 1
    funext x
    cases x with
    | none=>rfl
    | some b=>
     dsimp only
     split
     ·rfl
     ·congr 1
      funext _r
      congr 1
      funext _u
      congr 1
      congr 1
      funext s2
      obtain⟨r2,n2,q2⟩:=s2
      cases r2 with
      | some r2=>rfl
      | none=>
       dsimp only
       split
       ·congr 1
        funext _v
        congr 1
        funext _w
        congr 1
        funext s3
        obtain⟨r3,n3⟩:=s3
        cases r3 <;> rfl
       ·congr 1
        funext _w
        congr 1
        funext s3
        obtain⟨r3,n3⟩:=s3
        cases r3 <;> rfl
   ·congr 1
    funext _u
    congr 1
    congr 1
    funext s2
    obtain⟨r2,n2,q2⟩:=s2
    cases r2 with
    | some r2=>rfl
    | none=>
     dsimp only
     split
     ·congr 1
      funext _v
      congr 1
      funext _w
      congr 1
      funext s3
      obtain⟨r3,n3⟩:=s3
      cases r3 <;> rfl
     ·congr 1
      funext _w
      congr 1
      funext s3
      obtain⟨r3,n3⟩:=s3
      cases r3 <;> rfl
variable {st₀:SortSt} {lo:Nat}
theorem AbP {st:SortSt} {a m:Nat} {Q:AS→SortSt→Prop} (C:Cmp prog w A E s κ a₀ rk) (hn:lo+m≤a₀.size) (ha:1≤a) (han:a≤m) (hB:SB κ a₀ st)
  (hs:Seg rk (arrOf st) lo (lo+a))
  (h:∀n,a≤n→n≤m→Seg rk (arrOf st) lo (lo+n)→(n=m∨R rk (arrOf st) (lo+n)<R rk (arrOf st) (lo+n-1))→Q (none,n) st):
  wpS (model prog w) A E s (ascL lo a m) Q st:=by
 unfold ascL
 refine wpS_forRange (I:=fun x c st'=>st'=st∧c=(none,x)∧Seg rk (arrOf st) lo (lo+x)) ?step ?fin ⟨rfl,rfl,hs⟩
 case fin=>
  rintro c st' ⟨rfl,rfl,hs'⟩
  rw [show max a m=m by omega] at hs' ⊢
  exact h m han (Nat.le_refl _) hs' (.inl rfl)
 case step=>
  rintro x c st' hax hxn ⟨rfl,rfl,hs'⟩
  dsimp only
  refine wpS_bind (wpS_ask C hB (by omega) (by omega) ?_)
  by_cases hless:R rk (arrOf st') (lo+x)<R rk (arrOf st') (lo+x-1)
  ·simp only [hless,decide_true,if_true]
   exact wpS_pure (h x hax (by omega) hs' (.inr hless))
  ·simp only [hless,decide_false,Bool.false_eq_true,if_false]
   refine wpS_pure ⟨rfl,rfl,fun i j hl hij hj=>?_⟩
   by_cases hjx:j<lo+x
   ·exact hs' i j hl hij hjx
   ·have hj':j=lo+x:=by omega
    subst hj'
    by_cases hi':i=lo+x
    ·subst hi';exact Int.le_refl _
    ·exact Int.le_trans (hs' i (lo+x-1) hl (by omega) (by omega)) (Int.not_lt.mp hless)
end
end Sr
namespace Sr
open PySem PyProof.Rows
section
variable {prog:Program} {w:World} {A:Around} {E:Value→Shared→Prop} {s:Shared} {κ:SortKind} {a₀:Array Keyed} {rk:Keyed→Int}
end
end Sr
namespace Sr
open PySem PyProof.Rows
section
variable {prog:Program} {w:World} {A:Around} {E:Value→Shared→Prop} {s:Shared} {κ:SortKind} {a₀:Array Keyed} {rk:Keyed→Int}
end
end Sr
namespace Sr
open PySem PyProof.Rows
section
variable {prog:Program} {w:World} {A:Around} {E:Value→Shared→Prop} {s:Shared} {κ:SortKind} {a₀:Array Keyed} {rk:Keyed→Int}
end
end Sr
namespace Sr
open PySem PyProof.Rows
section
variable {M:Model} {A:Around} {E:Value→Shared→Prop} {s:Shared} {σ:Type}
end
section
variable {prog:Program} {w:World} {A:Around} {E:Value→Shared→Prop} {s:Shared} {κ:SortKind} {a₀:Array Keyed} {rk:Keyed→Int}
end
end Sr
namespace Sr
open PySem PyProof.Rows
section
variable {prog:Program} {w:World} {A:Around} {E:Value→Shared→Prop} {s:Shared} {κ:SortKind} {a₀:Array Keyed} {rk:Keyed→Int}
end
end Sr
namespace Sr
open PySem PyProof.Rows
section
variable {prog:Program} {w:World} {A:Around} {E:Value→Shared→Prop} {s:Shared}
theorem cmp_ints {a₀:Array Keyed} (h0:IntKeys a₀):Cmp prog w A E s oneType' a₀ (fun p=>numOf p.1):=⟨fun {x y st Q} hx hy hk h=>by
 obtain⟨n,t,e1⟩:=h0 x hx
 obtain⟨m,u,e2⟩:=h0 y hy
 rw [lt'_eq]
 refine wpS_bind (wpS_get ?_)
 rw [hk,keyLt'_oneType,e1,e2]
 rw [e1,e2] at h
 exact wpS_bind (wpS_lift (wpAny_attempt (oneLt_int ⟨rfl,wpS_pure h⟩)))⟩
end
end Sr
namespace L2
open PySem PySem.Spec PyProof.Rows PySem.W
section
variable {X:Cx}
end
end L2
namespace Sr
open PySem PyProof.Rows
section
variable {prog:Program} {w:World} {A:Around} {E:Value→Shared→Prop} {s:Shared} {κ:SortKind} {a₀:Array Keyed} {rk:Keyed→Int}
theorem vB {st:SortSt} {lo m:Nat} {Q:Option Nat→SortSt→Prop} (C:Cmp prog w A E s κ a₀ rk) (hn:lo+m≤a₀.size) (h1:1≤m) (hB:SB κ a₀ st) (up:Seg rk (arrOf st) lo (lo+m)) (h:Q (some m) st):
  wpS (model prog w) A E s (countRun' lo m) Q st:=by
 rw [AbJ]
 refine wpS_bind (AbP C hn (Nat.le_refl 1) h1 hB (fun i j hl hij hj=>by
  have:i=j:=by omega
  subst this;exact Int.le_refl _) fun n hn1 hn2 hsn hor=>?_)
 have hnm:n=m:=by
  rcases hor with z|z
  ·exact z
  ·by_cases e:n=m
   ·exact e
   ·have:=up (lo+n-1) (lo+n) (by omega) (by omega) (by omega)
    omega
 subst hnm
 dsimp only
 rw [if_pos (by simp)]
 exact wpS_pure h
theorem rL {st:SortSt} {lo n:Nat} {Q:Bool→SortSt→Prop} (h1:1≤n) (h:Q true st):wpS (model prog w) A E s (binarySort' lo n n) Q st:=by
 rw [binarySort'_eq]
 refine wpS_bind (wpS_mono (wpS_forRange (I:=fun k c st'=>c=(none,())∧st'=st) (Q:=fun c st'=>c=(none,())∧st'=st) ?step (fun _ _ z=>z) ⟨rfl,rfl⟩) ?post)
 case step=>
  intro k c st' h2 h3
  exact absurd h3 (by omega)
 case post=>
  rintro c st' ⟨rfl,rfl⟩
  exact wpS_pure h
theorem oH:∀(f n r:Nat),1≤n→1≤minRun' f n r
 | 0,n,r,h=>by show 1≤n+r;omega
 | f+1,n,r,h=>by
  rw [minRun'_succ]
  split
  ·omega
  ·exact oH f _ _ (by omega)
theorem wpS_sortUp {st:SortSt} {Q:Unit→SortSt→Prop} (C:Cmp prog w A E s κ a₀ rk) (hB:SB κ a₀ st) (hp:pendingOf st=#[]) (h1:1≤a₀.size) (up:Seg rk (arrOf st) 0 a₀.size)
  (h:∀st',SB κ a₀ st'→Seg rk (arrOf st') 0 a₀.size→Q () st'):wpS (model prog w) A E s sortRuns' Q st:=by
 rw [sortRuns'_eq]
 refine wpS_bind (wpS_get ?_)
 dsimp only
 have mp:=oH a₀.size a₀.size 0 h1
 simp only [hB.size]
 generalize minRun' a₀.size a₀.size 0=mr at mp ⊢
 refine wpS_bind (wpS_mono (wpS_forRange
  (I:=fun x c st'=>SB κ a₀ st'∧Seg rk (arrOf st') 0 a₀.size∧((x=0∧c=(none,0)∧pendingOf st'=#[])∨(c=(none,a₀.size)∧(pendingOf st').size≤1)))
  (Q:=fun c st'=>c=(none,a₀.size)∧SB κ a₀ st'∧Seg rk (arrOf st') 0 a₀.size∧(pendingOf st').size≤1) ?step ?fin ⟨hB,up,.inl ⟨rfl,rfl,hp⟩⟩) ?post)
 case fin=>
  rintro c st' ⟨b,u,⟨x,_⟩|⟨rfl,z⟩⟩
  ·omega
  ·exact⟨rfl,b,u,z⟩
 case step=>
  rintro x c st' _ hx ⟨b,u,⟨rfl,rfl,z⟩|⟨rfl,z⟩⟩
  ·dsimp only
   rw [if_neg (by omega)]
   refine wpS_bind (vB C (by omega) (by omega) b (by rw [show 0+(a₀.size-0)=a₀.size by omega];exact u) ?_)
   dsimp only
   rw [show a₀.size-0=a₀.size by omega]
   by_cases hlt:a₀.size<mr
   ·rw [if_pos hlt]
    refine wpS_bind (wpS_lift (wpAny_rule ⟨rfl,?_⟩))
    rw [show min a₀.size mr=a₀.size by omega]
    refine wpS_bind (rL h1 ?_)
    simp only [Bool.not_true,Bool.false_eq_true,if_false]
    refine wpS_bind (wpS_get ?_)
    rw [show (pendingOf st').back?=none by rw [z];rfl]
    dsimp only
    refine wpS_bind (wpS_modify (wpS_pure ⟨⟨b.perm,b.kind,b.failed⟩,u,.inr ⟨by rw [Nat.zero_add],?_⟩⟩))
    show ((pendingOf st').push (0,a₀.size,0)).size≤1
    rw [z]
    exact Nat.le_refl _
   ·rw [if_neg hlt]
    refine wpS_bind (wpS_get ?_)
    rw [show (pendingOf st').back?=none by rw [z];rfl]
    dsimp only
    refine wpS_bind (wpS_modify (wpS_pure ⟨⟨b.perm,b.kind,b.failed⟩,u,.inr ⟨by rw [Nat.zero_add],?_⟩⟩))
    show ((pendingOf st').push (0,a₀.size,0)).size≤1
    rw [z]
    exact Nat.le_refl _
  ·dsimp only
   rw [if_pos (by omega)]
   exact wpS_pure ⟨rfl,b,u,z⟩
 case post=>
  rintro c st' ⟨rfl,b,u,z⟩
  dsimp only
  refine wpS_bind (wpS_mono (wpS_forRange (I:=fun x c st2=>c=(none,())∧st2=st') (Q:=fun c st2=>c=(none,())∧st2=st') ?step3 (fun _ _ y=>y) ⟨rfl,rfl⟩) ?post3)
  case step3=>
   rintro x c st2 _ hx ⟨rfl,rfl⟩
   refine wpS_bind (wpS_get ?_)
   rw [if_pos z]
   exact wpS_pure ⟨rfl,rfl⟩
  case post3=>
   rintro c st2 ⟨rfl,rfl⟩
   exact wpS_pure (h _ b u)
end
end Sr
namespace L2
open PySem PySem.Spec PyProof.Rows PySem.W
structure Own (X:Cx) (a:Addr):Prop where
 up:X.s₀.heap.objs.size≤a
 neL:a≠X.env.locals
 nfs:a ∉ X.fs
 neC:∀x c,X.env.cells.lookup x=some c→c≠a
 neP:∀p ∈ X.pn,p.1≠a
section
variable {X:Cx} {pins pins':List (Addr × Obj)} {σ:St} {H:Hp} {s:Shared} {a:Addr} {o o':Obj} {h':Heap} {tk:Nat}
theorem Own.of (I:Inv X pins σ H s) (h:s.heap.objs.size≤a):Own X a:=by
 refine⟨Nat.le_trans I.sz h,Nat.ne_of_gt (Nat.lt_of_lt_of_le I.lt h),fun hb=>?_,fun x c e z=>?_,fun p hp z=>?_⟩
 ·obtain⟨_,o,ho,_⟩:=I.ok.funs.mem hb
  exact absurd (Nat.lt_of_lt_of_le (Heap.lt_size ho) (Nat.le_trans I.sz h)) (Nat.lt_irrefl _)
 ·obtain⟨v,o,ho,_⟩:=I.cell x c e
  rw [z] at ho
  exact absurd (Nat.lt_of_lt_of_le (Heap.lt_size ho) h) (Nat.lt_irrefl _)
 ·obtain⟨e,_⟩:=I.pin p (List.mem_append_left _ hp)
  rw [z] at e
  exact absurd (Nat.lt_of_lt_of_le (Heap.lt_size e) h) (Nat.lt_irrefl _)
theorem Inv.wr (I:Inv X pins σ H s) (hm:(a,o) ∈ pins) (O:Own X a) (hs:Heap.SameBut a s.heap h') (e:h'.get? a=some o') (hd:∀v,o'.data≠.cell v) (hp:∀p ∈ pins',(p ∈ pins∧p.1≠a)∨p=(a,o')):
  Inv X pins' σ H { s with heap:=h',toks:=tk }:=by
 obtain⟨_,n,_⟩:=I.pin (a,o) (List.mem_append_right _ hm)
 have I0:Inv X [] σ H s:=I.pins_of fun p hp=>absurd hp (by simp)
 have I1:=I0.turned (h':=h') (t':=tk) (it:=a) (fun b u ne g=>(hs.2 b ne).trans g) n O.neL (.inr O.up) O.neC (fun p hp=>O.neP p (by simpa using hp))
 refine I1.pins_of fun p hq=>?_
 rcases hp p hq with ⟨hq,ne⟩|rfl
 ·obtain⟨g,n',nl,nf,d⟩:=I.pin p (List.mem_append_right _ hq)
  exact⟨(hs.2 _ ne).trans g,n',nl,nf,d⟩
 ·exact⟨e,n,O.neL,O.nfs,hd⟩
theorem Inv.pinAt (I:Inv X pins σ H s) (hm:(a,o) ∈ pins):s.heap.get? a=some o:=(I.pin (a,o) (List.mem_append_right _ hm)).1
theorem Inv.pinIn (I:Inv X pins σ H s) (hm:(a,o) ∈ pins):s.heap.get? a=some o∧H a=none∧a≠X.env.locals∧a ∉ X.fs∧∀v,o.data≠.cell v:=I.pin (a,o) (List.mem_append_right _ hm)
theorem gU {T:String} {xs:Array Value} {n:Nat}:∀v,(seqObj T xs n).data≠.cell v:=fun v z=>by cases z
end
section
variable {X:Cx} {pins:List (Addr × Obj)} {σ:St} {H:Hp} {s:Shared} {A':Around} {E:Value→Shared→Prop} {D kS f:Addr} {vs:List Value} {xs:List V} {kz:List Int} {keys:Array Value} {e e1 n:Nat} {J:Hp→Prop} {P:PySem.Fin→Shared→Prop}
theorem wB {st:SortSt} (I:Inv X ((kS,seqObj "list" keys e)::(D,seqObj "list" #[] e1)::pins) σ H s) (hJ:J H) (OD:Own X D) (Ok:Own X kS) (ne:kS≠D) (pk:∀p ∈ pins,p.1≠kS) (pD:∀p ∈ pins,p.1≠D)
  (hk:IntsAre keys.toList kz) (hlen:kz.length=vs.length) (hz:vs.length≤sizeLine) (hp:(arrOf st).Perm (keys.zip vs.toArray)) (hs:SortedTo (arrOf st) (arrOf st).size) (hfl:failedOf st=none)
  (h:∀s' H' (os:List Value) c,Inv X ((D,seqObj "list" os.toArray c)::pins) σ H' s'→J H'→KskOut false kz vs os→P (.done (.ret .none)) s'):
  wpAny (model X.prog X.w) A' (ksk_tail D false e1 (.ref kS) st) P E s:=by
 have nk:=I.pinAt (a:=kS) (o:=seqObj "list" keys e) (by simp)
 have na:=I.pinAt (a:=D) (o:=seqObj "list" #[] e1) (by simp)
 have hsz:keys.size=vs.length:=by
  have h1:=hk.length
  rw [Array.length_toList] at h1
  omega
 have hsz2:(arrOf st).size=vs.length:=by rw [hp.size_eq,Array.size_zip,hsz,List.size_toArray,Nat.min_self]
 have s1:=Heap.SameBut.update s.heap kS (Obj.mapSeq fun _=>(#[]:Array Value))
 have na1:(s.heap.update kS (Obj.mapSeq fun _=>(#[]:Array Value))).get? D=some (seqObj "list" #[] e1):=(s1.2 D ne.symm).trans na
 have s2:=Heap.SameBut.update (s.heap.update kS (Obj.mapSeq fun _=>(#[]:Array Value))) D (Obj.mapSeq fun _=>(arrOf st).map (·.2))
 obtain⟨c1,hc1⟩:∃c1,(s.heap.update kS (Obj.mapSeq fun _=>(#[]:Array Value))).get? kS=some (seqObj "list" #[] c1):=⟨_,get?_update_seq nk fun _=>#[]⟩
 obtain⟨c2,hc2⟩:∃c2,((s.heap.update kS (Obj.mapSeq fun _=>(#[]:Array Value))).update D (Obj.mapSeq fun _=>(arrOf st).map (·.2))).get? D=some (seqObj "list" ((arrOf st).map (·.2)) c2):=
  ⟨_,get?_update_seq na1 fun _=>(arrOf st).map (·.2)⟩
 unfold ksk_tail
 try dsimp only
 refine wpAny_bind (listUpdate_at nk rfl ?_ (by rw [hsz];exact hz) (Nat.zero_le _))
 refine wpAny_bind (wpAny_letGo ?_)
 refine wpAny_bind (seqEpoch_at na1 rfl ?_)
 refine wpAny_bind (listUpdate_at na1 rfl ?_ (Nat.zero_le _) (by simp only [Bool.false_eq_true,if_false,Array.size_map];omega))
 rw [hfl]
 simp only [bne_self_eq_false,Bool.false_eq_true,if_false]
 have I1:=I.wr (a:=kS) (o:=seqObj "list" keys e) (tk:=s.toks) (pins':=(D,seqObj "list" #[] e1)::pins) (by simp) Ok s1 hc1 gU fun p hp=>.inl ⟨List.mem_cons_of_mem _ hp,by
  rcases List.mem_cons.mp hp with rfl|hp
  ·exact ne.symm
  ·exact pk p hp⟩
 have I2:=I1.wr (a:=D) (o:=seqObj "list" #[] e1) (tk:=s.toks) (pins':=(D,seqObj "list" ((arrOf st).map (·.2)) c2)::pins) (by simp) OD s2 hc2 gU fun p hp=>by
  rcases List.mem_cons.mp hp with rfl|hp
  ·exact .inr rfl
  ·exact .inl ⟨List.mem_cons_of_mem _ hp,pD p hp⟩
 have ko:=ksk_out (b:=false) hk hp hs
 refine wpAny_pure (h _ H ((arrOf st).map (·.2)).toList c2 (by rw [Array.toArray_toList];exact I2) hJ ?_)
 simpa using ko
theorem key_end (I:Inv X ((kS,seqObj "list" keys e)::(D,seqObj "list" #[] e1)::pins) σ H s) (hJ:J H) (OD:Own X D) (Ok:Own X kS) (ne:kS≠D) (pk:∀p ∈ pins,p.1≠kS) (pD:∀p ∈ pins,p.1≠D)
  (hk:IntsAre keys.toList kz) (hlen:kz.length=vs.length) (up:kz.Pairwise (·≤·)) (hz:vs.length≤sizeLine)
  (h:∀s' H' (os:List Value) c,Inv X ((D,seqObj "list" os.toArray c)::pins) σ H' s'→J H'→KskOut false kz vs os→P (.done (.ret .none)) s'):
  wpAny (model X.prog X.w) A' (ksk_end D false vs.toArray e1 (.ref kS) keys) P E s:=by
 have hsz:keys.size=vs.length:=by
  have h1:=hk.length
  rw [Array.length_toList] at h1
  omega
 have hzs:(keys.zip vs.toArray).size=vs.length:=by rw [Array.size_zip,hsz,List.size_toArray,Nat.min_self]
 unfold ksk_end
 simp only [Bool.false_eq_true,if_false]
 by_cases h2:vs.toArray.size<2
 ·rw [if_pos h2,if_pos h2]
  refine wpAny_bind (wpAny_pure ?_)
  rw [StateT.run_pure]
  refine wpAny_bind (wpAny_pure ?_)
  try dsimp only
  refine wB (st:=SortSt.mk' general' (keys.zip vs.toArray) #[] 7 none) I hJ OD Ok ne pk pD hk hlen hz (Array.Perm.refl _) ?_ rfl h
  intro i j hij hj
  have hj2:j<(keys.zip vs.toArray).size:=hj
  rw [hzs] at hj2
  rw [List.size_toArray] at h2
  have:i=j:=by omega
  subst this
  exact Int.le_refl _
 ·rw [if_neg h2,if_neg h2]
  rw [List.size_toArray] at h2
  rw [ksk_kind hk (by rw [hsz];omega)]
  refine wpAny_bind (wpAny_pure ?_)
  have seg:Sr.Seg (fun p=>numOf p.1) (keys.zip vs.toArray) 0 (keys.zip vs.toArray).size:=fun i j _ hij hj=>by
   rw [hzs] at hj
   have at_:∀k (hk':k<vs.length),Sr.R (fun p=>numOf p.1) (keys.zip vs.toArray) k=kz[k]'(by omega):=fun k hk'=>by
    obtain⟨t,e⟩:=hk.get k _ (List.getElem?_eq_getElem (show k<kz.length by omega))
    rw [Array.getElem?_toList] at e
    have e2:(keys.zip vs.toArray)[k]?=some (.int (kz[k]'(by omega)) t,vs[k]):=by
     rw [← Array.getElem?_toList,Array.toList_zip,List.getElem?_zip_eq_some]
     exact⟨by rw [Array.getElem?_toList];exact e,by simp⟩
    rw [Sr.R_at e2]
    rfl
   rw [at_ i (by omega),at_ j hj]
   by_cases e:i=j
   ·subst e
    exact Int.le_refl _
   ·exact List.pairwise_iff_getElem.mp up i j (by omega) (by omega) (by omega)
  refine wpAny_bind (wpAny_mono (Sr.wpS_sortUp (a₀:=keys.zip vs.toArray) (κ:=oneType') (rk:=fun p=>numOf p.1) (st:=SortSt.mk' oneType' (keys.zip vs.toArray) #[] 7 none)
   (Q:=fun _ st'=>(arrOf st').Perm (keys.zip vs.toArray)∧failedOf st'=none∧SortedTo (arrOf st') (keys.zip vs.toArray).size)
   (Sr.cmp_ints (ksk_intKeys hk)) ⟨Array.Perm.refl _,rfl,rfl⟩ rfl (by rw [hzs];omega) seg fun st' b hs=>⟨b.perm,b.failed,fun i j hij hj=>hs i j (Nat.zero_le _) hij hj⟩) ?_ fun _ _ e=>e)
  rintro⟨⟨⟩,st'⟩ s' ⟨rfl,hp,hf,hs⟩
  try dsimp only
  exact wB I hJ OD Ok ne pk pD hk hlen hz hp (by rw [hp.size_eq];exact hs) hf h
theorem AdR (I:Inv X ((kS,seqObj "list" #[] 0)::(D,seqObj "list" #[] e1)::pins) σ H s) (hJ:J H) (OD:Own X D) (Ok:Own X kS) (ne:kS≠D) (pk:∀p ∈ pins,p.1≠kS) (pD:∀p ∈ pins,p.1≠D)
  (rv:cB xs vs) (hlen:kz.length=vs.length) (up:kz.Pairwise (·≤·)) (hz:vs.length≤sizeLine)
  (turn:∀(pins':List (Addr × Obj)) (H':Hp) (s':Shared) (i:Nat) (x:V) (v:Value) (k:Int),Inv X pins' σ H' s'→J H'→xs[i]?=some x→kz[i]?=some k→cH x v→wpAny (model X.prog X.w) A' (call (.ref f) [v]) (EP X pins' σ fun y H''=>y=.int k∧J H'') (fun _ _=>False) s')
  (h:∀s' H' (os:List Value) c,Inv X ((D,seqObj "list" os.toArray c)::pins) σ H' s'→J H'→KskOut false kz vs os→P (.done (.ret .none)) s'):
  wpAny (model X.prog X.w) A' (ksk_rest D (.ref f) false vs.toArray e1 (.ref kS)) P E s:=by
 unfold ksk_rest
 refine wpAny_bind (wpAny_rule ?_)
 first
  | rw [List.forIn_toArray]
  | (rw [← Array.forIn_toList];simp only [List.toList_toArray])
  | rw [← Array.forIn_toList]
 refine wpAny_bind (ksk_fold (fun i s'=>∃H' kA e,Inv X ((kS,seqObj "list" kA e)::(D,seqObj "list" #[] e1)::pins) σ H' s'∧J H'∧IntsAre kA.toList (kz.take i)) vs 0 s
  ⟨H,#[],0,I,hJ,by simpa using IntsAre.nil⟩ ?step ?done)
 case step=>
  rintro j v s' hv ⟨H',kA,e,I',hJ',hk⟩
  simp only [Nat.zero_add] at hk ⊢
  have hj:j<vs.length:=(List.getElem?_eq_some_iff.mp hv).1
  obtain⟨k,hkj⟩:∃k,kz[j]?=some k:=⟨_,List.getElem?_eq_getElem (by omega)⟩
  obtain⟨x,hx,rx⟩:∃x,xs[j]?=some x∧cH x v:=by
   have ll:=rv.length
   obtain⟨u,hu,r⟩:=rv.get (List.getElem?_eq_getElem (show j<xs.length by omega))
   rw [hv] at hu
   cases hu
   exact⟨_,List.getElem?_eq_getElem (by omega),r⟩
  have hz':kA.size≤vs.length:=by
   have h1:=hk.length
   rw [Array.length_toList,List.length_take] at h1
   omega
  refine wpAny_bind (wpAny_attempt (wpAny_mono (turn _ H' s' j x v k I' hJ' hx hkj rx) (fun u s'' he=>?_) fun _ _ hF=>hF.elim))
  obtain⟨y,H2,I2,ry,rfl,hJ2⟩:=he
  obtain⟨t2,rfl⟩:∃t,u=.int k t:=ry
  try dsimp only
  have nk:=I2.pinAt (a:=kS) (o:=seqObj "list" kA e) (by simp)
  have s1:=Heap.SameBut.update s''.heap kS (Obj.mapSeq (·.push (.int k t2)))
  obtain⟨c2,hc2⟩:∃c2,(s''.heap.update kS (Obj.mapSeq (·.push (.int k t2)))).get? kS=some (seqObj "list" (kA.push (.int k t2)) c2):=⟨_,get?_update_seq nk (·.push (.int k t2))⟩
  have ek:kz.take (j+1)=kz.take j++[k]:=by rw [List.take_add_one,hkj];simp
  have ea:(kA.push (Value.int k t2)).toList=kA.toList++[Value.int k t2]:=by simp
  refine wpAny_bind (listUpdate_at nk rfl ?_ (by omega) (Nat.le_trans (Nat.le_of_eq (Array.size_push ..)) (by omega)))
  refine wpAny_pure ⟨rfl,H2,kA.push (.int k t2),c2,I2.wr (a:=kS) (o:=seqObj "list" kA e) (tk:=s''.toks) (by simp) Ok s1 hc2 gU (fun p hp=>?_),hJ2,by rw [ea,ek];exact ksk_snoc hk⟩
  rcases List.mem_cons.mp hp with rfl|hp
  ·exact .inr rfl
  ·refine .inl ⟨List.mem_cons_of_mem _ hp,?_⟩
   rcases List.mem_cons.mp hp with rfl|hp
   ·exact ne.symm
   ·exact pk p hp
 case done=>
  rintro s' ⟨H',kA,e,I',hJ',hk⟩
  have hk':IntsAre kA.toList kz:=by
   have e3:kz.take (0+vs.length)=kz:=List.take_of_length_le (by omega)
   rw [e3] at hk
   exact hk
  have nk:=I'.pinAt (a:=kS) (o:=seqObj "list" kA e) (by simp)
  try dsimp only
  refine wpAny_bind (listItems_at nk rfl ?_)
  exact key_end I' hJ' OD Ok ne pk pD hk' hlen up hz h
theorem AbZ (I:Inv X ((D,seqObj "list" vs.toArray n)::pins) σ H s) (hJ:J H) (OD:Own X D) (pD:∀p ∈ pins,p.1≠D) (rv:cB xs vs) (hlen:kz.length=vs.length) (up:kz.Pairwise (·≤·)) (hz:vs.length≤sizeLine)
  (turn:∀(pins':List (Addr × Obj)) (H':Hp) (s':Shared) (i:Nat) (x:V) (v:Value) (k:Int),Inv X pins' σ H' s'→J H'→xs[i]?=some x→kz[i]?=some k→cH x v→wpAny (model X.prog X.w) A' (call (.ref f) [v]) (EP X pins' σ fun y H''=>y=.int k∧J H'') (fun _ _=>False) s')
  (h:∀s' H' (os:List Value) c,Inv X ((D,seqObj "list" os.toArray c)::pins) σ H' s'→J H'→KskOut false kz vs os→P (.done (.ret .none)) s'):
  wpAny (model X.prog X.w) A' (ksk_tree D (.ref f) false) P E s:=by
 have ho:=I.pinAt (a:=D) (o:=seqObj "list" vs.toArray n) (by simp)
 have ha:D<s.heap.objs.size:=Heap.lt_size ho
 have s1:=Heap.SameBut.update s.heap D (Obj.mapSeq fun _=>(#[]:Array Value))
 obtain⟨e1,ho1⟩:∃e1,(s.heap.update D (Obj.mapSeq fun _=>(#[]:Array Value))).get? D=some (seqObj "list" #[] e1):=⟨_,get?_update_seq ho fun _=>#[]⟩
 have I1:=I.wr (a:=D) (o:=seqObj "list" vs.toArray n) (tk:=s.toks) (pins':=(D,seqObj "list" #[] e1)::pins) (by simp) OD s1 ho1 gU fun p hp=>by
  rcases List.mem_cons.mp hp with rfl|hp
  ·exact .inr rfl
  ·exact .inl ⟨List.mem_cons_of_mem _ hp,pD p hp⟩
 have I2:=I1.kept (h':=(s.heap.update D (Obj.mapSeq fun _=>(#[]:Array Value))).push (seqObj "tuple" vs.toArray 0)) (t':=s.toks) fun b u g=>Heap.get?_push_of_some _ g
 have I3:=I2.kept (h':=((s.heap.update D (Obj.mapSeq fun _=>(#[]:Array Value))).push (seqObj "tuple" vs.toArray 0)).push (seqObj "list" #[] 0)) (t':=s.toks) fun b u g=>Heap.get?_push_of_some _ g
 have Ok:=Own.of I2 (Nat.le_refl _)
 have nH:H ((s.heap.update D (Obj.mapSeq fun _=>(#[]:Array Value))).push (seqObj "tuple" vs.toArray 0)).objs.size=none:=I2.hok.fresh (Nat.le_refl _)
 have lt2:∀p ∈ (D,seqObj "list" #[] e1)::pins,p.1<((s.heap.update D (Obj.mapSeq fun _=>(#[]:Array Value))).push (seqObj "tuple" vs.toArray 0)).objs.size:=fun p hp=>Heap.lt_size (I2.pinAt (a:=p.1) (o:=p.2) hp)
 unfold ksk_tree
 refine wpAny_bind (listItems_at ho rfl ?_)
 refine wpAny_bind (listUpdate_at ho rfl ?_ (by rw [List.size_toArray];exact hz) (Nat.zero_le _))
 refine wpAny_bind (seqEpoch_at ho1 rfl ?_)
 refine wpAny_bind (wpAny_newTuple ?_ hz)
 refine wpAny_bind (wpAny_newList ?_ (Nat.zero_le _))
 refine wpAny_holding ?_
 refine AdR (e1:=e1) (I3.pins_of fun p hp=>?_) hJ OD Ok (Nat.ne_of_gt (lt2 (D,seqObj "list" #[] e1) (by simp))) (fun p hp=>Nat.ne_of_lt (lt2 p (List.mem_cons_of_mem _ hp))) pD rv hlen up hz turn h
 rcases List.mem_cons.mp hp with rfl|hp
 ·exact⟨Heap.get?_push_size _ rfl,nH,Ok.neL,Ok.nfs,gU⟩
 ·exact I3.pinIn (a:=p.1) (o:=p.2) hp
end
end L2
namespace L2
open PySem PySem.Spec PyProof.Rows PySem.W
def fO (v d:Addr):HO:=.ext fun h=>h.IsValuesView v d
theorem AbS {P:Program} {w:World} {H:Hp} {h:Heap} {v d:Addr} (x:h.IsValuesView v d):cE P w H h v (fO v d):=⟨x,let ⟨o,e,_⟩:=x;⟨o,e⟩,fun h1 h2 ⟨o,e,r⟩ k=>⟨o,k o e,r⟩⟩
def Itv (a:Addr) (o:Obj) (kvs:List (Key × V)):It:=
 ⟨fun i H=>H a=some (.frz o (.dK kvs))∧i<kvs.length,fun i H x H'=>H'=H∧∃e,kvs[i]?=some e∧x=e.2,fun i H=>H a=some (.frz o (.dK kvs))∧kvs.length≤i⟩
theorem KV.at {kvs:List (Key × V)} {vs:List (Key × Value)} (r:KV kvs vs) {i:Nat} {k:Key} {v:Value} (e:vs[i]?=some (k,v)):∃p,kvs[i]?=some p∧cH p.2 v:=by
 induction r generalizing i with
 | nil=>simp at e
 | cons h t ih=>
  cases i with
  | zero=>
   simp only [List.getElem?_cons_zero,Option.some.injEq] at e
   subst e
   exact⟨_,rfl,h.2⟩
  | succ i=>
   simp only [List.getElem?_cons_succ] at e ⊢
   exact ih e
theorem AaB {P:Program} {w:World} {K:PySem.W.Frag} {tg:Expr} (a it:Addr) (o:Obj) (kvs:List (Key × V)) {es:Array DictEntry} {ep:Nat} (hd:o.data=.dict es ep):Turn P w K tg (Itv a o kvs) [it] it (fun i h=>h.IsValIter it a i kvs.length ep) where
 mem:=by simp
 obj:=fun i h st b hb=>by
  have e:b=it:=by simpa using hb
  subst e
  obtain⟨o,e,c,d⟩:=st
  exact⟨o,e,fun v z=>by rw [d] at z;cases z⟩
 keep:=fun i h h' ⟨o,e,r⟩ k=>⟨o,k it (by simp) o e,r⟩
 item:=by
  intro X hP hw hK hc i pins s σ H E I hf st hg
  subst hP hw hK
  obtain⟨e,hi⟩:=hg
  obtain⟨vs,r,dt⟩:=zM I e hd
  have hl:=r.length
  obtain⟨f0,f1,f2,f3,f4,f5⟩:=hf it (by simp)
  obtain⟨⟨k,v⟩,hv⟩:∃p,vs[i]?=some p:=⟨vs[i],List.getElem?_eq_getElem (by omega)⟩
  refine wpAny_pyNext_values_item (by rw [← hl];exact st) dt hv fun h' st' sb=>?_
  have I1:Inv X pins σ H { s with heap:=h' }:=I.turned (t':=s.toks) (fun b o hb e=>(sb.2 b hb).trans e) f0 f1 f3 f4 f5
  obtain⟨oi,ei,ci,di⟩:=id st'
  obtain⟨p,hp,rp⟩:=KV.at r hv
  refine⟨v,rfl,wF (s:={ s with heap:=h' }) ei ci di (by decide) ⟨p.2,H,I1,rp,⟨rfl,p,hp,rfl⟩,by rw [hl];exact st',fun b hb=>(hf b hb).1⟩⟩
 done:=by
  intro X hP hw hK hc i pins s σ H E I hf st hg
  subst hP hw hK
  obtain⟨e,hi⟩:=hg
  obtain⟨vs,r,dt⟩:=zM I e hd
  have hl:=r.length
  obtain⟨f0,f1,f2,f3,f4,f5⟩:=hf it (by simp)
  exact wpAny_pyNext_values_end (I.ok.hd hc) (by rw [← hl];exact st) dt (List.getElem?_eq_none (by omega)) fun h' eb=>⟨rfl,I.turned (t':=s.toks) (fun b o hb e=>eb b o hb e) f0 f1 f3 f4 f5⟩
 self:=fun _ _ _ _ _ st h=>wpAny_pyIter_valiter st h
section
variable {X:Cx} {tg:Expr}
def rVals:V→List V→Hp→VK→Prop:=fun x vs H Q=>∃a kvs,x=.ref a∧vs=[]∧H a=some (.dK kvs)∧∀v,H v=none→Q (.ref v) (upd H v (fO v a))
theorem AaT:MtR X "dict.values" rVals:=by
 intro pins s σ H x vs v us Q I rx rv h
 obtain⟨a,kvs,rfl,rfl,hH,q⟩:=h
 cases rx
 have hus:=rv.zero
 subst hus
 obtain⟨hz,hS,vs',r,dk⟩:=(show cE X.prog X.w H s.heap a (.dK kvs) from I.hok a _ hH)
 refine call_meetsIn PySem.F.slot_dict_values dk.typeIs PySem.F.entry_dict_values (PySem.F.args_dict_values_1 _) (meets_dict_values (cV X.prog X.w) a hS) ⟨⟨vs',dk⟩,?_⟩
 have hf:H s.heap.objs.size=none:=I.hok.fresh (Nat.le_refl _)
 exact⟨.ref s.heap.objs.size,_,I.laid (a:=s.heap.objs.size) (t':=s.toks) (fun b u e=>Heap.get?_push_of_some _ e) (Nat.le_refl _) (AbS ⟨_,Heap.get?_push_size _ rfl,rfl,rfl⟩),rfl,q _ hf⟩
theorem uK {o:Expr} {to:TE} {apos cpos:Pos} (ho:PE X o to) (hbase:attributeBase o "values" X.env (eval o X.env)=eval o X.env:=by rfl) (hline:(apos.endLine == cpos.line)=true:=by rfl):PE X (.Call (.Attribute o "values" apos) [] [] cpos) (tBM0 X.K "dict" rVals to):=
 pe_bm0 PySem.F.plainAttrs_dict PySem.F.slot_dict_values PySem.F.type_dict_values AaT ho hbase hline
def iVals (tl:TE):TI:=fun σ H R=>tl σ H fun x H1=>∃v a kvs,x=.ref v∧H1 v=some (fO v a)∧H1 a=some (.dK kvs)∧∀o,R (Itv a o kvs) (upd H1 a (.frz o (.dK kvs)))
theorem yU {l:Expr} {tl:TE} (hl:PE X l tl):PI X tg l (iVals tl):=by
 intro pins s σ H R I h
 refine thn (hl pins s σ H _ I h) fun u s1 ⟨x,H1,I1,r1,q1⟩=>?_
 obtain⟨v,a,kvs,e,hv,hq,q⟩:=q1
 subst e
 cases r1
 obtain⟨view,_,_⟩:=I1.hok v _ hv
 have view:s1.heap.IsValuesView v a:=view
 obtain⟨o,ho,I2⟩:=I1.freeze hq
 obtain⟨hz,hS,vs,r,o',es,ep,g,c,d,k1,k2,k3⟩:=(show cE X.prog X.w H1 s1.heap a (.dK kvs) from I1.hok a _ hq)
 rw [ho] at g
 cases g
 refine wpAny_pyIter_values (knd:=cV X.prog X.w) (kvs:=vs) (ep:=ep) view ⟨o,es,ho,c,d,k1,k2,k3⟩ ?_
 refine⟨s1.heap.objs.size,[s1.heap.objs.size],_,_,_,rfl,I2.kept (t':=s1.toks) fun b o e=>Heap.get?_push_of_some _ e,AaB a _ o kvs d,?_,fun b hb=>?_,q o⟩
 ·exact⟨_,Heap.get?_push_size _ rfl,rfl,by rw [r.length];rfl⟩
 ·have e:b=s1.heap.objs.size:=by simpa using hb
  subst e
  exact I2.fpOk (Nat.le_refl _) (I2.hok.fresh (Nat.le_refl _))
theorem AeA {a:Addr} {o:Obj} {kvs:List (Key × V)} {g:TG} {tb:TS} {D:jT} {σ:St} {H:Hp} (Pv:Nat→St→Hp→Prop) (h0:Pv 0 σ H) (hl:∀i σ H,i≤kvs.length→Pv i σ H→H a=some (.frz o (.dK kvs)))
  (hs:∀i e σ H,kvs[i]?=some e→Pv i σ H→g e.2 σ H fun σ2 H2=>tb { D with nx:=Pv (i+1),ct:=Pv (i+1),bk:=D.nx } σ2 H2) (hd:∀ σ H,Pv kvs.length σ H→D.nx σ H):
  ∃W:Nat→Nat→St→Hp→Prop,(∃m,W 0 m σ H)∧∀i m σ H,W i m σ H →
   ((Itv a o kvs).stop i H∧D.nx σ H)∨((Itv a o kvs).go i H∧∃N:St→Hp→Prop,(∀ σ' H',N σ' H'→∃m',m'<m∧W (i+1) m' σ' H')∧∀x H',(Itv a o kvs).yld i H x H'→g x σ H' fun σ2 H2=>tb { D with nx:=N,ct:=N,bk:=D.nx } σ2 H2):=by
 refine⟨fun i m σ H=>m=kvs.length-i∧i≤kvs.length∧Pv i σ H,⟨kvs.length,by simp,Nat.zero_le _,h0⟩,?_⟩
 rintro i m σ H ⟨rfl,hi,p⟩
 have q:=hl i σ H hi p
 by_cases hlt:i<kvs.length
 ·refine .inr ⟨⟨q,hlt⟩,Pv (i+1),fun σ' H' p'=>⟨kvs.length-(i+1),by omega,rfl,hlt,p'⟩,fun x H' y=>?_⟩
  obtain⟨rfl,e,ee,rfl⟩:=y
  exact hs i e σ _ ee p
 ·have e:i=kvs.length:=by omega
  subst e
  exact .inl ⟨⟨q,Nat.le_refl _⟩,hd σ H p⟩
end
end L2
namespace L2
open PySem PySem.Spec PyProof.Rows PySem.W
def zZ (X:Cx) (A':Around) (σ:St) (f:Addr) (J:Hp→Prop) (x:V) (φ:Hp→V→Hp→Prop):Prop:=∀(pins':List (Addr × Obj)) (H':Hp) (s':Shared) (v:Value),Inv X pins' σ H' s'→J H'→cH x v →
 wpAny (model X.prog X.w) A' (call (.ref f) [v]) (EP X pins' σ fun y H''=>φ H' y H''∧J H'') (fun _ _=>False) s'
theorem zD {X:Cx} {A':Around} {σ:St} {k:Nat} {f c':Addr} {q p:Str} {params:Arguments} {body:Expr} {scope:Scope} {pm ctv:Value} {N:List Str} {tb:TE} {J:Hp→Prop} {x:V} {φ:Hp→V→Hp→Prop}
  (hf:∀H',J H'→H' f=some (funO f (kla_obj "<lambda>" q params body scope [] pm c' ctv))) (hcd:∀H',J H'→H' c'=some (oN c' q)) (hA:X.A.frames=some X.stack→A'.frames=some X.stack) (hr:Room (k+1) A') (S:aR N [p] scope) (hb:∀u,bindArgs (kla_fn "<lambda>" q params body scope [] pm (.ref c') ctv) ⟨[u],[]⟩=pure [(p,u)])
  (hbody:∀(s:Shared) (H:Hp),Room k (A'.deeper (envOfC q scope s.heap.objs.size f (.ref c')))→PE (kO CX0 X.prog X.w X.K X.mg X.base N q scope f (.ref c') A' X.stack s H E0).nox body tb)
  (hJ:∀H',J H'→tb (dO N [x]) H' (fun y H''=>φ H' y H''∧J H'')):zZ X A' σ f J x φ:=by
 intro pins' H' s' v I j r
 have h1:=hf H' j
 have h2:=hcd H' j
 have h3:=hJ H' j
 have e0:=I.env0
 have e1:uY X.prog X.w X.K X.mg X.base A' X.stack s' H':=⟨hA I.ok.frames,e0.mod,e0.bs,e0.bsz,e0.funs,e0.frf,e0.hok,e0.bare⟩
 refine wpAny_call (codeAny_mono (lam_run (CX:=CX0) (E:=E0) (us:=[v]) (vs:=[x]) h1 h2 S hr e1 (hb v) (.cons r .nil) rfl fun hr'=>⟨tb,(hbody s' H' hr').nox,h3⟩) fun r s'' hq=>?_)
 cases r with
 | error e=>exact hq
 | ok fl=>
  cases fl with
  | ret u=>exact I.after hq
  | next=>exact False.elim hq
  | brk=>exact False.elim hq
  | cont=>exact False.elim hq
theorem Inv.track {X:Cx} {pins:List (Addr × Obj)} {σ:St} {H:Hp} {s:Shared} {D:Addr} {o:Obj} {u:HO} (I:Inv X ((D,o)::pins) σ H s) (O:Own X D) (pD:∀p ∈ pins,p.1≠D) (new:cE X.prog X.w (upd H D u) s.heap D u):Inv X pins σ (upd H D u) s:=by
 have n:H D=none:=(I.pinIn (a:=D) (o:=o) (by simp)).2.1
 have I0:Inv X pins σ H s:=I.pins_of fun p hp=>I.pinIn (a:=p.1) (o:=p.2) (List.mem_cons_of_mem _ hp)
 have at':∀b v,H b=some v→(upd H D u) b=some v:=fun b v e=>by rw [aC (aG e n)];exact e
 refine I0.step (h':=s.heap) (g':=s.gens) (t':=s.toks) (d':=s.drawn) (ch:=[D]) (fun b hb=>?_) (fun b o _ _ _ e _=>e) (fun b o _ _ _ e _=>⟨o.slots,e⟩) (fun b o hb e z=>?_) (fun b o _ e=>⟨o,e⟩) (fun b xs e=>at' b _ e) (fun b o v e=>at' b _ e) (fun b ps e=>⟨#[],by rw [at' b _ e];simp⟩) (fun m z=>z) (fun b v e=>?_) I0.bare
 ·have z:b=D:=by simpa using hb
  subst z
  refine⟨.inr O.up,O.neL,O.neC,fun p hp=>?_⟩
  rcases List.mem_append.mp hp with hp|hp
  ·exact O.neP p hp
  ·exact pD p hp
 ·rw [aC (fun y=>hb (by simp [y]))]
  exact z
 ·by_cases hb:b=D
  ·subst hb
   rw [aB] at e
   cases e
   exact new
  ·rw [aC hb] at e
   exact(I0.hok b v e).stay (fun c w' _ r=>r) (fun c z=>at' c _ z) fun c xs z=>at' c _ z
theorem qH {α β:Type} (g:α→β):∀{ps:List β} {L:List α},ps.Perm (L.map g)→∃L':List α,L'.Perm L∧ps=L'.map g
 | [],L,h=>by
  have:L.map g=[]:=List.perm_nil.mp h.symm
  exact⟨[],by rw [List.map_eq_nil_iff.mp this],rfl⟩
 | a::ps,L,h=>by
  obtain⟨l,hl,rfl⟩:=List.mem_map.mp (h.mem_iff.mp (List.mem_cons_self ..))
  obtain⟨L1,L2,rfl⟩:=List.append_of_mem hl
  have e:(L1++l::L2).Perm (l::(L1++L2)):=List.perm_middle
  have h2:(g l::ps).Perm (g l::(L1++L2).map g):=h.trans (by simpa using e.map g)
  obtain⟨L',p1,p2⟩:=qH g h2.cons_inv
  exact⟨l::L',(p1.cons l).trans e.symm,by rw [List.map_cons,p2]⟩
def ByKey (kz:List Int) (xs ys:List V):Prop:=∃ps:List (Int × V),ps.Perm (kz.zip xs)∧ys=ps.map (·.2)∧ps.Pairwise (fun p q=>p.1≤q.1)
theorem vD:∀{xs:List V} {vs:List Value},cB xs vs→∀p ∈ xs.zip vs,cH p.1 p.2
 | _,_,.nil,p,hp=>by simp at hp
 | _,_,.cons r t,p,hp=>by
  rcases List.mem_cons.mp (by simpa using hp) with rfl|hp
  ·exact r
  ·exact vD t p hp
theorem yF:∀{L:List (V × Value)},(∀p ∈ L,cH p.1 p.2)→cB (L.map (·.1)) (L.map (·.2))
 | [],_=>.nil
 | p::L,h=>.cons (h p (List.mem_cons_self ..)) (yF fun q hq=>h q (List.mem_cons_of_mem _ hq))
theorem AeM {kz:List Int} {xs:List V} {vs os:List Value} (rv:cB xs vs) (h:KskOut false kz vs os):∃ys,cB ys os∧ByKey kz xs ys:=by
 obtain⟨ps,p1,rfl,p3⟩:=h
 have ll:=rv.length
 have e1:(kz.zip (xs.zip vs)).map (fun t=>(t.1,t.2.2))=kz.zip vs:=by
  have:(xs.zip vs).map (·.2)=vs:=List.map_snd_zip (by omega)
  conv=>rhs;rw [← this]
  rw [List.zip_map_right]
  rfl
 have e2:(kz.zip (xs.zip vs)).map (fun t=>(t.1,t.2.1))=kz.zip xs:=by
  have:(xs.zip vs).map (·.1)=xs:=List.map_fst_zip (by omega)
  conv=>rhs;rw [← this]
  rw [List.zip_map_right]
  rfl
 rw [← e1] at p1
 obtain⟨L,l1,rfl⟩:=qH _ p1
 refine⟨L.map (·.2.1),?_,L.map (fun t=>(t.1,t.2.1)),by rw [← e2];exact l1.map _,by rw [List.map_map];rfl,?_⟩
 ·have:=yF (L:=L.map (·.2)) fun p hp=>by
   obtain⟨t,ht,rfl⟩:=List.mem_map.mp hp
   exact vD rv t.2 (List.of_mem_zip (l1.mem_iff.mp ht)).2
  rw [List.map_map,List.map_map] at this
  rw [List.map_map]
  exact this
 ·rw [List.pairwise_map] at p3 ⊢
  exact p3.imp fun h=>by simpa using h
theorem zE:∀{kvs:List (Key × V)} {vs:List (Key × Value)},KV kvs vs→cB (kvs.map (·.2)) (vs.map (·.2))
 | _,_,.nil=>.nil
 | _,_,.cons h t=>.cons h.2 (zE t)
section
variable {X:Cx}
def AcK (X:Cx) (σ:St):List V→List V→Hp→VK→Prop:=fun xs ds H Q=>∃(v a f:Addr) (kvs:List (Key × V)) (kz:List Int) (J:Hp→Prop),xs=[.ref v]∧ds=[.ref f]∧H v=some (fO v a)∧H a=some (.dK kvs)∧J H∧kz.length=kvs.length∧kz.Pairwise (·≤·) ∧
 (∀(i:Nat) (e:Key × V) (k:Int),kvs[i]?=some e→kz[i]?=some k→zZ X X.A.in1.in1 σ f J e.2 fun _ y _=>y=.int k)∧∀l ys H',J H'→H' l=none→ByKey kz (kvs.map (·.2)) ys→Q (.ref l) (upd H' l (.lst ys))
theorem xZ (hc:X.calm=true) {pins:List (Addr × Obj)} {s:Shared} {σ:St} {H:Hp} {xs ds:List V} {us ws:List Value} {Q:VK} (I:Inv X pins σ H s) (r:cB xs us) (rd:cB ds ws) (h:AcK X σ xs ds H Q):
  wpAny (model X.prog X.w) X.A (call (.builtin "sorted") us ([("key":Str)].zip ws)) (EP X pins σ Q) X.xe s:=by
 obtain⟨v,a,f,kvs,kz,J,rfl,rfl,hv,ha,hJ,hkl,hup,hkey,q⟩:=h
 obtain⟨u,rfl,ru⟩:=r.one
 cases ru
 obtain⟨u',rfl,ru'⟩:=rd.one
 cases ru'
 obtain⟨view,_,_⟩:=I.hok v _ hv
 have view:s.heap.IsValuesView v a:=view
 obtain⟨hz,hS,vs,rkv,o',es,ep,g,c,d,k1,k2,k3⟩:=(show cE X.prog X.w H s.heap a (.dK kvs) from I.hok a _ ha)
 have ln:=rkv.length
 show wpAny _ _ (call (.builtin "sorted") [.ref v] [(Str.ofString "key",.ref f)]) _ _ _
 refine call_function_entry_kw kind_sorted plain_sorted entry_sorted (ksk_s1 _ _) ?_
 unfold Builtin.«sorted»
 refine wpAny_bind (m:=checkCount "sorted" 1 1 _) (wpAny_pure ?_)
 refine wpAny_bind (kdu_collect (kdl_values (knd:=cV X.prog X.w) (kvs:=vs) (ep:=ep)) (by simpa using I.ok.hd hc) ⟨view,o',es,g,c,d,k1,k2,k3⟩ (by omega) fun h' tk acc hk hacc=>?_)
 have av:acc.toList=vs.map (·.2):=kdl_vals_eq _ (by rw [Array.length_toList];exact hacc.1) fun j x hx=>hacc.2 j x (by rw [← Array.getElem?_toList];exact hx)
 rw [av]
 have I1:Inv X pins σ H { s with heap:=h',toks:=tk }:=I.kept hk
 have rv:cB (kvs.map (·.2)) (vs.map (·.2)):=zE rkv
 have lv:(vs.map (·.2)).length≤sizeLine:=by rw [List.length_map];omega
 refine wpAny_bind (wpAny_newList ?_ (by rw [List.length_map];omega))
 have OD:Own X h'.objs.size:=Own.of I1 (Nat.le_refl _)
 have nD:H h'.objs.size=none:=I1.hok.fresh (Nat.le_refl _)
 have I2:Inv X pins σ H { s with heap:=h'.push (seqObj "list" (vs.map (·.2)).toArray 0),toks:=tk }:=I1.kept fun b o e=>Heap.get?_push_of_some _ e
 have hoL:(h'.push (seqObj "list" (vs.map (·.2)).toArray 0)).get? h'.objs.size=some (seqObj "list" (vs.map (·.2)).toArray 0):=Heap.get?_push_size _ rfl
 have pD:∀p ∈ pins,p.1≠h'.objs.size:=fun p hp=>Nat.ne_of_lt (Heap.lt_size (I1.pinAt (a:=p.1) (o:=p.2) hp))
 have I3:Inv X ((h'.objs.size,seqObj "list" (vs.map (·.2)).toArray 0)::pins) σ H { s with heap:=h'.push (seqObj "list" (vs.map (·.2)).toArray 0),toks:=tk }:=I2.pins_of fun p hp=>by
  rcases List.mem_cons.mp hp with rfl|hp
  ·exact⟨hoL,nD,OD.neL,OD.nfs,gU⟩
  ·exact I2.pinIn (a:=p.1) (o:=p.2) hp
 refine wpAny_bind (wpAny_holding (wpAny_call_entry_kw slot_list_sort ⟨_,hoL,rfl⟩ entry_list_sort ?body (ksk_l1 _ _)))
 case body=>
  show wpAny (model X.prog X.w) X.A.in1.in1 (Builtin.«list.sort» ⟨[.ref h'.objs.size],[(Str.ofString "key",.ref f)]⟩) _ _ _
  rw [ksk_t1]
  refine AbZ (kz:=kz) (J:=J) I3 hJ OD pD rv (by rw [List.length_map];omega) hup lv (fun pins' H' s' i x v k I' j hx hk' rx=>?_) fun s' H' os c' I' j ko=>?_
  ·rw [List.getElem?_map] at hx
   cases hi:kvs[i]? with
   | none=>rw [hi] at hx;cases hx
   | some e=>
    rw [hi] at hx
    cases hx
    exact hkey i e k hi hk' pins' H' s' v I' j rx
  ·obtain⟨ys,ry,bk⟩:=AeM rv ko
   have ly:ys.length≤sizeLine:=by
    obtain⟨ps,p1,rfl,_⟩:=bk
    have:=p1.length_eq
    rw [List.length_zip,List.length_map] at this
    rw [List.length_map]
    omega
   have nD':H' h'.objs.size=none:=(I'.pinIn (a:=h'.objs.size) (o:=seqObj "list" os.toArray c') (by simp)).2.1
   have eD:=I'.pinAt (a:=h'.objs.size) (o:=seqObj "list" os.toArray c') (by simp)
   refine⟨.none,rfl,wpAny_pure ⟨.ref h'.objs.size,rfl,.ref h'.objs.size,_,I'.track (u:=.lst ys) OD pD ⟨ly,os,c',ry,eD⟩,rfl,q _ ys H' j nD' bk⟩⟩
def tSortK (X:Cx) (ta td:TA):TE:=fun σ H Q=>ta σ H fun xs H1=>td σ H1 fun ds H2=>AcK X σ xs ds H2 Q
theorem AcS {x:Str} {p pos kpos:Pos} {a b:Expr} {ta td:TA} (hc:X.calm=true) (hg:Gl X x) (hm:X.mg x=none) (hv:bootBuiltins x=some (.builtin "sorted")) (ha:PA X [a] ta) (hd:PK X [⟨some "key",b,kpos⟩] td) (hn:x≠"__name__":=by decide) (hdb:(x == ("__debug__":Str))=false:=by decide)
  (hall:(backToKw pos (keywordEach [⟨some "key",b,kpos⟩] X.env)).all (·.1.isSome)=true:=by rfl) (hks:(backToKw pos (keywordEach [⟨some "key",b,kpos⟩] X.env)).filterMap (·.1)=[("key":Str)]:=by rfl)
  (he:starEach [a] X.env=(false,eval a X.env)::starEach [] X.env:=by rfl) (hpl:((backTo pos (starEach [a] X.env)).any (·.1) || (backToKw pos (keywordEach [⟨some "key",b,kpos⟩] X.env)).any (·.1.isNone))=false:=by rfl):
  PE X (.Call (.Name x p) [a] [⟨some "key",b,kpos⟩] pos) (tSortK X ta td):=by
 intro pins s σ H Q I h
 refine wpAny_Call_Name_kw (iZ I hg hm hv ?_ hn hdb)
 refine PySem.W.callWith_of (P:=fun g=>X.K.In g) hpl (fun _ _=>⟨.machine,.inr (.inl rfl),.now⟩) (PyProof.Rows.evalArgs_kw2 hall (thn (ha pos pins s σ H _ I h) fun us s1 ⟨vs,H1,I1,r,q⟩=>?_) he)
 refine thn (hd pos pins s1 σ H1 _ I1 q) fun ws s2 ⟨zs,H2,I2,rz,q2⟩=>⟨I2.kIn,?_⟩
 rw [hks]
 exact xZ hc I2 r rz q2
end
end L2
namespace L2
open PySem PySem.Spec PyProof.Rows PySem.W
def ltP (p q:Int × Int):Prop:=p.1<q.1∨(p.1=q.1∧p.2<q.2)
instance (p q:Int × Int):Decidable (ltP p q):=by unfold ltP;infer_instance
theorem AaW (p q:Int × Int):HT.lexLt [p.1,p.2] [q.1,q.2]=decide (ltP p q):=by
 rw [Bool.eq_iff_iff,decide_eq_true_eq]
 simp only [HT.lexLt_cons,HT.lexLt_nil_nil,ltP]
 split
 ·split
  ·simp;omega
  ·simp;omega
 ·simp;omega
theorem AaU {p q r:Int × Int} (h1:ltP p q) (h2:¬ ltP r q):ltP p r:=by
 unfold ltP at *
 omega
theorem ltP_not {p q r:Int × Int} (h1:ltP p q) (h2:¬ ltP r q):¬ ltP r p:=by
 unfold ltP at *
 omega
theorem zC {p:Int × Int}:¬ ltP p p:=by
 unfold ltP
 omega
def KeyP (k:Int × Int):Hp→V→Hp→Prop:=fun H' y H''=>(∃t,y=.ref t∧H'' t=some (.tup [.int k.1,.int k.2]))∧∀b xs,H' b=some (.tup xs)→H'' b=some (.tup xs)
theorem Inv.wrK {X:Cx} {pins pins':List (Addr × Obj)} {σ:St} {H:Hp} {s:Shared} {a:Addr} {o o':Obj} {h':Heap} {tk:Nat} (I:Inv X pins σ H s) (hm:(a,o) ∈ pins) (O:Own X a) (hs:∀b u,b≠a→s.heap.get? b=some u→h'.get? b=some u) (e:h'.get? a=some o') (hd:∀v,o'.data≠.cell v) (hp:∀p ∈ pins',(p ∈ pins∧p.1≠a)∨p=(a,o')):
  Inv X pins' σ H { s with heap:=h',toks:=tk }:=by
 obtain⟨_,n,_⟩:=I.pin (a,o) (List.mem_append_right _ hm)
 have I0:Inv X [] σ H s:=I.pins_of fun p hp=>absurd hp (by simp)
 have I1:=I0.turned (h':=h') (t':=tk) (it:=a) (fun b u ne g=>hs b u ne g) n O.neL (.inr O.up) O.neC (fun p hp=>O.neP p (by simpa using hp))
 refine I1.pins_of fun p hq=>?_
 rcases hp p hq with ⟨hq,ne⟩|rfl
 ·obtain⟨g,n',nl,nf,d⟩:=I.pin p (List.mem_append_right _ hq)
  exact⟨hs _ _ ne g,n',nl,nf,d⟩
 ·exact⟨e,n,O.neL,O.nfs,hd⟩
theorem Inv.listAt {X:Cx} {pins:List (Addr × Obj)} {σ:St} {H:Hp} {s:Shared} {l:Addr} {ps:List Addr} (I:Inv X pins σ H s) (h:H l=some (.lst (ps.map V.ref))):s.heap.IsList l (ps.map Value.ref).toArray∧ps.length≤sizeLine:=by
 obtain⟨its,r,pl,z⟩:=I.list (SqL.of h)
 rw [vI r] at pl
 rw [List.length_map] at z
 exact⟨pl.isList,z⟩
theorem qU {o:Obj} {l:Addr} {i:Int} (hd:o.data=.fields #[.ref l,.int i 0]):∀v,o.data≠.cell v:=fun v z=>by rw [hd] at z;cases z
section
variable {X:Cx} {pins:List (Addr × Obj)} {σ:St} {l f I S:Addr} {ps:List Addr} {J:Hp→Prop} {R:Result→Shared→Prop}
theorem AdN (kf:Nat→Int × Int) (hh:X.A.handled=none) (hu:X.A.in1.units<cLine) (OI:Own X I) (OS:Own X S) (hSI:S≠I) (hlI:l≠I) (pI:∀p ∈ pins,p.1≠I) (pS:∀p ∈ pins,p.1≠S)
  (hJl:∀H',J H'→H' l=some (.lst (ps.map V.ref)))
  (turn:∀(i:Nat) (p:Addr),ps[i]?=some p→zZ X X.A.in1 σ f J (.ref p) (KeyP (kf i)))
  (hR:∀i p s' H',ps[i]?=some p→(∀j,j<ps.length→¬ ltP (kf j) (kf i)∧(j<i→ltP (kf i) (kf j)))→Inv X pins σ H' s'→J H'→R (.ok (.ret (.ref p))) s'):
  ∀(r j i:Nat) (s:Shared) (H:Hp) (pb kb:Addr) (c:Nat) (oI:Obj),ps.length-(j+1)=r→j+1≤ps.length→Inv X ((S,seqObj "list" #[.ref pb,.ref kb] c)::(I,oI)::pins) σ H s→J H →
   oI.cls=.type "list_iterator"→oI.data=.fields #[.ref l,.int ((j+1:Nat):Int) 0]→H kb=some (.tup [.int (kf i).1,.int (kf i).2])→ps[i]?=some pb→i≤j→(∀j',j'≤j→¬ ltP (kf j') (kf i)∧(j'<i→ltP (kf i) (kf j'))) →
   codeAny (model X.prog X.w) X.A (.builtin "min.loop" ⟨[.ref I,.ref f,.ref S],[]⟩) R s:=by
 have hname:(toString "min"++toString ".loop":String)="min.loop":=by decide
 have W:=Walks.list (prog:=X.prog) (w:=X.w) (A:=X.A.in1) hh I l hlI (ps.map Value.ref).toArray
 have hsz:(ps.map Value.ref).toArray.size=ps.length:=by simp
 intro r
 induction r with
 | zero=>
  intro j i s H pb kb c oI hr hj Iv hJ oc od hk hpb hij hbest
  have hin:j+1=ps.length:=by omega
  have nS:=Iv.pinAt (a:=S) (o:=seqObj "list" #[.ref pb,.ref kb] c) (by simp)
  have nI:=Iv.pinAt (a:=I) (o:=oI) (by simp)
  obtain⟨isL,_⟩:=Iv.listAt (hJl H hJ)
  refine codeAny_builtin PySem.F.entry_min_loop ?_
  rw [Around.under_plainId PySem.F.plain_min_loop _]
  show wpAny _ X.A.in1 (seqItems? (.ref S) >>= _) _ _ _
  refine wpAny_bind (wpAny_seqItems nS rfl ?_)
  show wpAny _ X.A.in1 (tryCatch (pyNext (.ref I)) _ >>= _) _ _ _
  refine wpAny_bind (wpAny_tryCatch (W.done _ _ _ ⟨by rw [hsz,← hin];exact⟨oI,nI,oc,od⟩,isL⟩ fun h' tk' hk'=>?_))
  have I0:Inv X ((S,seqObj "list" #[.ref pb,.ref kb] c)::pins) σ H s:=Iv.pins_of fun p hp=>Iv.pinIn (a:=p.1) (o:=p.2) (by
   rcases List.mem_cons.mp hp with rfl|hp
   ·simp
   ·exact List.mem_cons_of_mem _ (List.mem_cons_of_mem _ hp))
  have I1:Inv X ((S,seqObj "list" #[.ref pb,.ref kb] c)::pins) σ H { s with heap:=h',toks:=tk' }:=I0.turned (it:=I) (t':=tk') (fun b o ne e=>hk' b o (by simpa using ne) e) (Iv.pinIn (a:=I) (o:=oI) (by simp)).2.1 OI.neL (.inr OI.up) OI.neC (fun p hp=>by
   rcases List.mem_append.mp hp with hp|hp
   ·exact OI.neP p hp
   ·rcases List.mem_cons.mp hp with rfl|hp
    ·exact hSI
    ·exact pI p hp)
  have hS':=I1.pinAt (a:=S) (o:=seqObj "list" #[.ref pb,.ref kb] c) (by simp)
  have s1:=Heap.SameBut.update h' S (Obj.mapSeq fun _=>(#[]:Array Value))
  obtain⟨c2,hc2⟩:∃c2,(h'.update S (Obj.mapSeq fun _=>(#[]:Array Value))).get? S=some (seqObj "list" #[] c2):=⟨_,get?_update_seq hS' fun _=>#[]⟩
  show wpAny _ X.A.in1 (updateSeq S (fun _=>#[]) >>= _) _ _ _
  refine wpAny_bind ?_
  refine wpAny_updateSeq hS' rfl (wpAny_bind (wpAny_letGo (wpAny_pure ?_)))
  have I2:=I1.wr (a:=S) (o:=seqObj "list" #[.ref pb,.ref kb] c) (tk:=tk') (pins':=pins) (by simp) OS s1 hc2 gU fun p hp=>.inl ⟨List.mem_cons_of_mem _ hp,pS p hp⟩
  exact hR i pb _ H hpb (fun j' hj'=>hbest j' (by omega)) I2 hJ
 | succ r ih=>
  intro j i s H pb kb c oI hr hj Iv hJ oc od hk hpb hij hbest
  have hlt:j+1<ps.length:=by omega
  have nS:=Iv.pinAt (a:=S) (o:=seqObj "list" #[.ref pb,.ref kb] c) (by simp)
  have nI:=Iv.pinAt (a:=I) (o:=oI) (by simp)
  obtain⟨isL,_⟩:=Iv.listAt (hJl H hJ)
  refine codeAny_builtin PySem.F.entry_min_loop ?_
  rw [Around.under_plainId PySem.F.plain_min_loop _]
  show wpAny _ X.A.in1 (seqItems? (.ref S) >>= _) _ _ _
  refine wpAny_bind (wpAny_seqItems nS rfl ?_)
  show wpAny _ X.A.in1 (tryCatch (pyNext (.ref I)) _ >>= _) _ _ _
  refine wpAny_bind (wpAny_tryCatch (W.item (j+1) _ _ _ (by rw [hsz];exact hlt) ⟨⟨oI,nI,oc,od⟩,isL⟩ fun v h' tk' hP hst' hk'=>?_))
  obtain⟨p,hp,rfl⟩:∃p,ps[j+1]?=some p∧v=.ref p:=by
   have hv:(ps.map Value.ref)[j+1]?=some v:=by simpa using hP
   rw [List.getElem?_map,List.getElem?_eq_getElem hlt] at hv
   exact⟨_,List.getElem?_eq_getElem hlt,(Option.some.inj hv).symm⟩
  obtain⟨oI',hoI',hoc,hod⟩:=id hst'.1
  have I1:=Iv.wrK (a:=I) (o:=oI) (o':=oI') (h':=h') (tk:=tk') (pins':=(S,seqObj "list" #[.ref pb,.ref kb] c)::(I,oI')::pins) (by simp) OI (fun b u ne e=>hk' b u (by simpa using ne) e) hoI' (qU hod) fun p hp=>by
   rcases List.mem_cons.mp hp with rfl|hp
   ·exact .inl ⟨by simp,hSI⟩
   ·rcases List.mem_cons.mp hp with rfl|hp
    ·exact .inr rfl
    ·exact .inl ⟨List.mem_cons_of_mem _ (List.mem_cons_of_mem _ hp),pI p hp⟩
  show wpAny _ X.A.in1 (tryCatch (holding [.ref p] (call (.ref f) [.ref p])) _ >>= _) _ _ _
  refine wpAny_bind (wpAny_tryCatch (wpAny_holding (wpAny_mono (turn (j+1) p hp _ H _ _ I1 hJ rfl) (fun x s'' he=>?_) fun _ _ hF=>hF.elim)))
  obtain⟨y,H2,I2,ry,⟨⟨t,rfl,ht⟩,tups⟩,hJ2⟩:=he
  cases ry
  have hk2:=tups kb _ hk
  have nS2:=I2.pinAt (a:=S) (o:=seqObj "list" #[.ref pb,.ref kb] c) (by simp)
  have nI2:=I2.pinAt (a:=I) (o:=oI') (by simp)
  show wpAny _ X.A.in1 (tryCatch (holding [.ref p,.ref t] (richCompare .Lt (.ref t) (.ref kb) >>= _)) _ >>= _) _ _ _
  obtain⟨ia,ra,pa,_⟩:=I2.tuple (SqT.of (show H2 t=some (.tup ([(kf (j+1)).1,(kf (j+1)).2].map V.int)) from ht))
  obtain⟨ib,rb,pb',_⟩:=I2.tuple (SqT.of (show H2 kb=some (.tup ([(kf i).1,(kf i).2].map V.int)) from hk2))
  have cmp:=HT.lt_tupInts (prog:=X.prog) (w:=X.w) (A:=X.A.in1) (E:=fun _ _=>False) pa pb' (qW ra) (qW rb) hu (Q:=fun u s3=>u=.bool (decide (ltP (kf (j+1)) (kf i)))∧s3=s'') ⟨by rw [AaW],rfl⟩
  refine wpAny_bind (wpAny_tryCatch (wpAny_holding (wpAny_bind (wpAny_mono cmp (fun u s3 z=>?_) fun _ _ z=>z.elim))))
  obtain⟨rfl,rfl⟩:=z
  refine wpAny_bind (wpAny_holding (wpAny_truthy_bool ?_))
  refine wpAny_bind (wpAny_letGo (wpAny_pure ?_))
  by_cases hb':ltP (kf (j+1)) (kf i)
  ·have s1:=Heap.SameBut.update s3.heap S (Obj.mapSeq fun _=>#[.ref p,.ref t])
   obtain⟨c2,hc2⟩:∃c2,(s3.heap.update S (Obj.mapSeq fun _=>#[.ref p,.ref t])).get? S=some (seqObj "list" #[.ref p,.ref t] c2):=⟨_,get?_update_seq nS2 fun _=>#[.ref p,.ref t]⟩
   simp only [hb',decide_true,if_true]
   refine wpAny_bind ?_
   refine wpAny_updateSeq nS2 rfl (wpAny_bind (wpAny_letGo ?_))
   rw [hname]
   have I3:=I2.wr (a:=S) (o:=seqObj "list" #[.ref pb,.ref kb] c) (tk:=s3.toks) (pins':=(S,seqObj "list" #[.ref p,.ref t] c2)::(I,oI')::pins) (by simp) OS s1 hc2 gU fun p hp=>by
    rcases List.mem_cons.mp hp with rfl|hp
    ·exact .inr rfl
    ·refine .inl ⟨List.mem_cons_of_mem _ hp,?_⟩
     rcases List.mem_cons.mp hp with rfl|hp
     ·exact hSI.symm
     ·exact pS p hp
   refine wpAny_pure ⟨plainId_quiet PySem.F.plain_min_loop _,ih (j+1) (j+1) _ H2 p t c2 oI' (by omega) hlt I3 hJ2 hoc hod ht hp (Nat.le_refl _) fun j' hj'=>?_⟩
   by_cases e:j'=j+1
   ·subst e
    exact⟨zC,fun h=>absurd h (Nat.lt_irrefl _)⟩
   ·have hb1:=(hbest j' (by omega)).1
    exact⟨ltP_not hb' hb1,fun _=>AaU hb' hb1⟩
  ·simp only [hb',decide_false,Bool.false_eq_true,if_false]
   refine wpAny_bind (wpAny_letGo ?_)
   rw [hname]
   refine wpAny_pure ⟨plainId_quiet PySem.F.plain_min_loop _,ih (j+1) i _ H2 pb kb c oI' (by omega) hlt I2 hJ2 hoc hod hk2 hpb (by omega) fun j' hj'=>?_⟩
   by_cases e:j'=j+1
   ·subst e
    exact⟨hb',fun h=>by omega⟩
   ·exact hbest j' (by omega)
def rMinK (X:Cx) (σ:St):List V→List V→Hp→VK→Prop:=fun xs ds H Q=>∃(l f:Addr) (ps:List Addr) (kf:Nat→Int × Int) (J:Hp→Prop),xs=[.ref l]∧ds=[.ref f]∧J H∧(∀H',J H'→H' l=some (.lst (ps.map V.ref)))∧ps≠[] ∧
 (∀(i:Nat) (p:Addr),ps[i]?=some p→zZ X X.A.in1 σ f J (.ref p) (KeyP (kf i)))∧∀(i:Nat) (p:Addr) (H':Hp),J H'→ps[i]?=some p→(∀j,j<ps.length→¬ ltP (kf j) (kf i)∧(j<i→ltP (kf i) (kf j)))→Q (.ref p) H'
theorem AbM (hc:X.calm=true) (hu:X.A.in1.units<cLine) {s:Shared} {H:Hp} {xs ds:List V} {us ws:List Value} {Q:VK} (Iv:Inv X pins σ H s) (r:cB xs us) (rd:cB ds ws) (h:rMinK X σ xs ds H Q):
  wpAny (model X.prog X.w) X.A (call (.builtin "min") us ([("key":Str)].zip ws)) (EP X pins σ Q) X.xe s:=by
 obtain⟨l,f,ps,kf,J,rfl,rfl,hJ,hJl,hne,turn,q⟩:=h
 obtain⟨u,rfl,ru⟩:=r.one
 cases ru
 obtain⟨u',rfl,ru'⟩:=rd.one
 cases ru'
 have hh:X.A.handled=none:=Iv.ok.hd hc
 have hne:0<ps.length:=List.length_pos_iff.mpr hne
 have hname:(toString "min"++toString ".loop":String)="min.loop":=by decide
 obtain⟨isL,_⟩:=Iv.listAt (hJl H hJ)
 show wpAny _ _ (call (.builtin "min") [.ref l] [(Str.ofString "key",.ref f)]) _ _ _
 refine kmk_tree PySem.F.kind_min PySem.F.plain_min PySem.F.entry_min (kmk_min_key _ _) ?_
 show wpAny _ X.A.in1 (Builtin.Builtins.bindParams "min" ["key","default"] 0 ⟨[],[(Str.ofString "key",.ref f)]⟩ >>= _) _ _ s
 refine wpAny_bind (wpAny_of_eq (show Builtin.Builtins.bindParams "min" ["key","default"] 0 ⟨[],[(Str.ofString "key",.ref f)]⟩=pure [some (.ref f),none] from rfl) ?_)
 refine wpAny_bind (wpAny_pure ?_)
 refine wpAny_bind (wpAny_pyIter_list isL ?_)
 refine wpAny_bind (wpAny_newList ?_ (Nat.zero_le _))
 rw [hname]
 have lI:l<s.heap.objs.size:=Iv.hok.lt (hJl H hJ)
 have hlI:l≠s.heap.objs.size:=Nat.ne_of_lt lI
 have OI:Own X s.heap.objs.size:=Own.of Iv (Nat.le_refl _)
 have nI:H s.heap.objs.size=none:=Iv.hok.fresh (Nat.le_refl _)
 have I1:Inv X pins σ H { s with heap:=s.heap.push { cls:=.type "list_iterator",data:=.fields #[.ref l,.int 0 0] } }:=Iv.kept (t':=s.toks) fun b o e=>Heap.get?_push_of_some _ e
 have I2:Inv X pins σ H { s with heap:=(s.heap.push { cls:=.type "list_iterator",data:=.fields #[.ref l,.int 0 0] }).push (seqObj "list" #[] 0) }:=I1.kept (t':=s.toks) fun b o e=>Heap.get?_push_of_some _ e
 have OS:Own X (s.heap.push { cls:=.type "list_iterator",data:=.fields #[.ref l,.int 0 0] }).objs.size:=Own.of I1 (Nat.le_refl _)
 have nS:H (s.heap.push { cls:=.type "list_iterator",data:=.fields #[.ref l,.int 0 0] }).objs.size=none:=I1.hok.fresh (Nat.le_refl _)
 have hS:(s.heap.push { cls:=.type "list_iterator",data:=.fields #[.ref l,.int 0 0] }).objs.size=s.heap.objs.size+1:=size_push' ..
 have hSI:(s.heap.push { cls:=.type "list_iterator",data:=.fields #[.ref l,.int 0 0] }).objs.size≠s.heap.objs.size:=by rw [hS];exact Nat.ne_of_gt (Nat.lt_succ_self _)
 have gI:((s.heap.push { cls:=.type "list_iterator",data:=.fields #[.ref l,.int 0 0] }).push (seqObj "list" #[] 0)).get? s.heap.objs.size=some { cls:=.type "list_iterator",data:=.fields #[.ref l,.int 0 0] }:=
  Heap.get?_push_of_some _ (Heap.get?_push_size _ rfl)
 have gS:((s.heap.push { cls:=.type "list_iterator",data:=.fields #[.ref l,.int 0 0] }).push (seqObj "list" #[] 0)).get? (s.heap.push { cls:=.type "list_iterator",data:=.fields #[.ref l,.int 0 0] }).objs.size=some (seqObj "list" #[] 0):=Heap.get?_push_size _ rfl
 have pI:∀p ∈ pins,p.1≠s.heap.objs.size:=fun p hp=>Nat.ne_of_lt (Heap.lt_size (Iv.pinAt (a:=p.1) (o:=p.2) hp))
 have pS:∀p ∈ pins,p.1≠(s.heap.push { cls:=.type "list_iterator",data:=.fields #[.ref l,.int 0 0] }).objs.size:=fun p hp=>Nat.ne_of_lt (Heap.lt_size (I1.pinAt (a:=p.1) (o:=p.2) hp))
 generalize hSd:(s.heap.push { cls:=.type "list_iterator",data:=.fields #[.ref l,.int 0 0] }).objs.size=S at OS nS hSI gS pS ⊢
 generalize hId:s.heap.objs.size=I at OI nI hlI hSI gI pI ⊢
 generalize (s.heap.push { cls:=.type "list_iterator",data:=.fields #[.ref l,.int 0 0] }).push (seqObj "list" #[] 0)=h0 at I2 gI gS ⊢
 have I3:Inv X ((S,seqObj "list" #[] 0)::(I,{ cls:=.type "list_iterator",data:=.fields #[.ref l,.int 0 0] })::pins) σ H { s with heap:=h0 }:=I2.pins_of fun p hp=>by
  rcases List.mem_cons.mp hp with rfl|hp
  ·exact⟨gS,nS,OS.neL,OS.nfs,gU⟩
  ·rcases List.mem_cons.mp hp with rfl|hp
   ·exact⟨gI,nI,OI.neL,OI.nfs,fun v z=>by cases z⟩
   ·exact I2.pinIn (a:=p.1) (o:=p.2) hp
 obtain⟨isL3,_⟩:=I3.listAt (hJl H hJ)
 have W:=Walks.list (prog:=X.prog) (w:=X.w) (A:=X.A.in1) hh I l hlI (ps.map Value.ref).toArray
 have hsz:(ps.map Value.ref).toArray.size=ps.length:=by simp
 refine wpAny_pure ⟨plainId_quiet PySem.F.plain_min_loop _,?_⟩
 refine codeAny_builtin PySem.F.entry_min_loop ?_
 rw [Around.under_plainId PySem.F.plain_min_loop _]
 show wpAny _ X.A.in1 (seqItems? (.ref S) >>= _) _ _ _
 refine wpAny_bind (wpAny_seqItems gS rfl ?_)
 show wpAny _ X.A.in1 (tryCatch (pyNext (.ref I)) _ >>= _) _ _ _
 refine wpAny_bind (wpAny_tryCatch (W.item 0 _ _ _ (by rw [hsz];exact hne) ⟨⟨_,gI,rfl,rfl⟩,isL3⟩ fun v h' tk' hP hst' hk'=>?_))
 obtain⟨p,hp,rfl⟩:∃p,ps[0]?=some p∧v=.ref p:=by
  have hv:(ps.map Value.ref)[0]?=some v:=by simpa using hP
  rw [List.getElem?_map,List.getElem?_eq_getElem hne] at hv
  exact⟨_,List.getElem?_eq_getElem hne,(Option.some.inj hv).symm⟩
 obtain⟨oI',hoI',hoc,hod⟩:=id hst'.1
 have I4:=I3.wrK (a:=I) (o:={ cls:=.type "list_iterator",data:=.fields #[.ref l,.int 0 0] }) (o':=oI') (h':=h') (tk:=tk') (pins':=(S,seqObj "list" #[] 0)::(I,oI')::pins) (by simp) OI (fun b u ne e=>hk' b u (by simpa using ne) e) hoI' (qU hod) fun p hp=>by
  rcases List.mem_cons.mp hp with rfl|hp
  ·exact .inl ⟨by simp,hSI⟩
  ·rcases List.mem_cons.mp hp with rfl|hp
   ·exact .inr rfl
   ·exact .inl ⟨List.mem_cons_of_mem _ (List.mem_cons_of_mem _ hp),pI p hp⟩
 show wpAny _ X.A.in1 (tryCatch (holding [.ref p] (call (.ref f) [.ref p])) _ >>= _) _ _ _
 refine wpAny_bind (wpAny_tryCatch (wpAny_holding (wpAny_mono (turn 0 p hp _ H _ _ I4 hJ rfl) (fun x s'' he=>?_) fun _ _ hF=>hF.elim)))
 obtain⟨y,H2,I5,ry,⟨⟨t,rfl,ht⟩,tups⟩,hJ2⟩:=he
 cases ry
 have nS2:=I5.pinAt (a:=S) (o:=seqObj "list" #[] 0) (by simp)
 have s1:=Heap.SameBut.update s''.heap S (Obj.mapSeq fun _=>#[.ref p,.ref t])
 obtain⟨c2,hc2⟩:∃c2,(s''.heap.update S (Obj.mapSeq fun _=>#[.ref p,.ref t])).get? S=some (seqObj "list" #[.ref p,.ref t] c2):=⟨_,get?_update_seq nS2 fun _=>#[.ref p,.ref t]⟩
 show wpAny _ X.A.in1 (updateSeq S (fun _=>#[.ref p,.ref t]) >>= _) _ _ _
 refine wpAny_bind ?_
 refine wpAny_updateSeq nS2 rfl ?_
 rw [hname]
 have I6:=I5.wr (a:=S) (o:=seqObj "list" #[] 0) (tk:=s''.toks) (pins':=(S,seqObj "list" #[.ref p,.ref t] c2)::(I,oI')::pins) (by simp) OS s1 hc2 gU fun p hp=>by
  rcases List.mem_cons.mp hp with rfl|hp
  ·exact .inr rfl
  ·refine .inl ⟨List.mem_cons_of_mem _ hp,?_⟩
   rcases List.mem_cons.mp hp with rfl|hp
   ·exact hSI.symm
   ·exact pS p hp
 refine wpAny_pure ⟨plainId_quiet PySem.F.plain_min_loop _,AdN kf hh hu OI OS hSI hlI pI pS hJl turn (fun i p' s' H' hp' best I' j'=>⟨.ref p',H',I',rfl,q i p' H' j' hp' best⟩) _ 0 0 _ H2 p t c2 oI' rfl hne I6 hJ2 hoc hod ht hp (Nat.le_refl _) fun j' hj'=>?_⟩
 have e:j'=0:=by omega
 subst e
 exact⟨zC,fun h=>absurd h (Nat.lt_irrefl _)⟩
def tMinK (X:Cx) (ta td:TA):TE:=fun σ H Q=>ta σ H fun xs H1=>td σ H1 fun ds H2=>rMinK X σ xs ds H2 Q
theorem pe_minK {x:Str} {p pos kpos:Pos} {a b:Expr} {ta td:TA} (hc:X.calm=true) (hu:X.A.in1.units<cLine) (hg:Gl X x) (hm:X.mg x=none) (hv:bootBuiltins x=some (.builtin "min")) (ha:PA X [a] ta) (hd:PK X [⟨some "key",b,kpos⟩] td) (hn:x≠"__name__":=by decide) (hdb:(x == ("__debug__":Str))=false:=by decide)
  (hall:(backToKw pos (keywordEach [⟨some "key",b,kpos⟩] X.env)).all (·.1.isSome)=true:=by rfl) (hks:(backToKw pos (keywordEach [⟨some "key",b,kpos⟩] X.env)).filterMap (·.1)=[("key":Str)]:=by rfl)
  (he:starEach [a] X.env=(false,eval a X.env)::starEach [] X.env:=by rfl) (hpl:((backTo pos (starEach [a] X.env)).any (·.1) || (backToKw pos (keywordEach [⟨some "key",b,kpos⟩] X.env)).any (·.1.isNone))=false:=by rfl):
  PE X (.Call (.Name x p) [a] [⟨some "key",b,kpos⟩] pos) (tMinK X ta td):=by
 intro pins s σ H Q I h
 refine wpAny_Call_Name_kw (iZ I hg hm hv ?_ hn hdb)
 refine PySem.W.callWith_of (P:=fun g=>X.K.In g) hpl (fun _ _=>⟨.machine,.inr (.inl rfl),.now⟩) (PyProof.Rows.evalArgs_kw2 hall (thn (ha pos pins s σ H _ I h) fun us s1 ⟨vs,H1,I1,r,q⟩=>?_) he)
 refine thn (hd pos pins s1 σ H1 _ I1 q) fun ws s2 ⟨zs,H2,I2,rz,q2⟩=>⟨I2.kIn,?_⟩
 rw [hks]
 exact AbM hc hu I2 r rz q2
end
end L2
namespace Ls
open PySem L2 PySem.W
abbrev pf (n l h m:Int) (lv:V):List (Str × V):=[("number",.int n),("low",.int l),("high",.int h),("mark",.int m),("lending",lv)]
def rT (C:Addr) (H:Hp) (p:Addr) (n l h m:Int) (lv:V):Prop:=∃dx,H p=some (.ins C dx (pf n l h m lv))
def nZ (H:Hp):V→Option (Int × Str × Int)→Prop
 | .non,none=>True
 | .ref q,some (t,x,u)=>H q=some (.tup [.int t,.str x,.int u])
 | _,_=>False
theorem nZ.non {H:Hp} {lv:V} {o:Option (Int × Str × Int)} (h:nZ H lv o):decide (lv=.non)=o.isNone:=by
 cases lv <;> cases o <;> first|rfl|exact h.elim
theorem pf_mark {n l h m m':Int} {lv:V}:dC "mark" (.int m') (pf n l h m lv)=pf n l h m' lv:=by
 simp only [dC]
 rw [if_neg (by decide +kernel),if_neg (by decide +kernel),if_neg (by decide +kernel),if_pos trivial]
theorem uJ {n l h m:Int} {lv lv':V}:dC "lending" lv' (pf n l h m lv)=pf n l h m lv':=by
 simp only [dC]
 rw [if_neg (by decide +kernel),if_neg (by decide +kernel),if_neg (by decide +kernel),if_neg (by decide +kernel),if_pos trivial]
theorem pf_all {n l h m:Int} {lv:V}:dC "lending" lv (dC "mark" (.int m) (dC "high" (.int h) (dC "low" (.int l) (dC "number" (.int n) []))))=pf n l h m lv:=rfl
structure Pl (K:PySem.W.Frag) (mg:Str→Option Value) (C:Addr):Prop where
 cl:Cls K C
 nN:dE K C "number"
 nL:dE K C "low"
 nH:dE K C "high"
 nM:dE K C "mark"
 nD:dE K C "lending"
 mgC:mg "Piece"=some (.ref C)
def tU (C:Addr):Sp:=fun vs H Q _=>∃(p dx:Addr) (n l h:Int),vs=[.ref p,.int n,.int l,.int h]∧H p=some (.ins C dx [])∧Q .non (upd H p (.ins C dx (pf n l h l .non)))
def tT (C:Addr):Sp:=fun vs H Q _=>∃(p:Addr) (n l h m:Int) (lv:V),vs=[.ref p]∧rT C H p n l h m lv∧Q (.int (h-m)) H
def uB (C:Addr):Sp:=fun vs H Q _=>∃(p:Addr) (n l h m:Int) (lv:V),vs=[.ref p]∧rT C H p n l h m lv∧Q (.bl (decide (m=h))) H
def tW (C:Addr):Sp:=fun vs H Q _=>∃(p:Addr) (n l h m:Int) (lv:V),vs=[.ref p]∧rT C H p n l h m lv∧Q (.bl (!decide (lv=.non))) H
def xA (C:Addr):Sp:=fun vs H Q _=>∃(p:Addr) (n l h m:Int) (lv:V),vs=[.ref p]∧rT C H p n l h m lv∧Q (.bl (decide (lv=.non) && !decide (m=h))) H
def wZ (C:Addr):Sp:=fun vs H Q _=>∃(p:Addr) (n l h m i:Int) (lv:V) (o:Option (Int × Str × Int)),vs=[.ref p,.int i]∧rT C H p n l h m lv∧nZ H lv o∧Q (.bl (o.any fun t=>decide (t.1=i))) H
def tS (C:Addr):Sp:=fun vs H Q _=>∃(p:Addr) (n l h m:Int) (lv:V),vs=[.ref p]∧rT C H p n l h m lv∧∀r,H r=none→Q (.ref r) (upd H r (.tup [.int n,.int l,.int h,.int m,lv]))
section
variable {P:Program} {w:World} {K:PySem.W.Frag} {mg:Str→Option Value} {base:Heap}
theorem scPInit:aR ["self","number","low","high"] ["self","number","low","high"] (aH mE):=⟨rfl,rfl,rfl,by decide +kernel,rfl,by decide +kernel,by decide +kernel⟩
theorem AdB {f C:Addr} {fd:FuncData} (F:Fun K "__init__" "Piece.__init__" mE f fd) (T:Pl K mg C):aK P w K mg base CX0 1 f fd ["self","number","low","high"] (tU C):=by
 refine F.ok scPInit (fun vs H Q E h=>?_) (fun cdv A outer s H vs Q E hr h=>?_)
 ·obtain⟨p,dx,n,l,h',rfl,_⟩:=h
  rfl
 ·obtain⟨p,dx,n,l,h',rfl,hp,t⟩:=h
  refine⟨_,aF (dF (pv 0) (pv 1) rfl) (aF (dF (pv 0) (pv 2) rfl) (aF (dF (pv 0) (pv 3) rfl) (aF (dF (pv 0) (pv 2) rfl) (aJ (dF (pv 0) eZ rfl))))),?_⟩
  refine⟨_,rfl,_,rfl,p,C,dx,_,rfl,hp,T.cl,T.nN,(by show 0<1000;decide),?_⟩
  refine⟨_,rfl,_,rfl,p,C,dx,_,rfl,aB,T.cl,T.nL,(by show 1<1000;decide),?_⟩
  refine⟨_,rfl,_,rfl,p,C,dx,_,rfl,aB,T.cl,T.nH,(by show 2<1000;decide),?_⟩
  refine⟨_,rfl,_,rfl,p,C,dx,_,rfl,aB,T.cl,T.nM,(by show 3<1000;decide),?_⟩
  refine⟨_,rfl,p,C,dx,_,rfl,aB,T.cl,T.nD,(by show 4<1000;decide),?_⟩
  rw [dP,dP,dP,dP,pf_all]
  exact t
theorem scRest:aR ["self"] ["self"] (aH lY):=⟨rfl,rfl,rfl,by decide +kernel,rfl,by decide +kernel,by decide +kernel⟩
theorem ok_rest {f C:Addr} {fd:FuncData} (F:Fun K "rest" "Piece.rest" lY f fd) (T:Pl K mg C):aK P w K mg base CX0 1 f fd ["self"] (tT C):=by
 refine F.ok scRest (fun vs H Q E h=>?_) (fun cdv A outer s H vs Q E hr h=>?_)
 ·obtain⟨p,n,l,h',m,lv,rfl,_⟩:=h
  rfl
 ·obtain⟨p,n,l,h',m,lv,rfl,⟨dx,hp⟩,t⟩:=h
  refine⟨_,aJ (bQ (aS gC (aU (pv 0) rfl) (aU (pv 0) rfl))),?_⟩
  exact⟨_,rfl,p,C,dx,_,_,rfl,hp,T.cl,T.nH,rfl,_,rfl,p,C,dx,_,_,rfl,hp,T.cl,T.nM,rfl,_,_,rfl,rfl,t⟩
theorem scDone:aR ["self"] ["self"] (aH mJ):=⟨rfl,rfl,rfl,by decide +kernel,rfl,by decide +kernel,by decide +kernel⟩
theorem ok_done {f C:Addr} {fd:FuncData} (F:Fun K "is_done" "Piece.is_done" mJ f fd) (T:Pl K mg C):aK P w K mg base CX0 1 f fd ["self"] (uB C):=by
 refine F.ok scDone (fun vs H Q E h=>?_) (fun cdv A outer s H vs Q E hr h=>?_)
 ·obtain⟨p,n,l,h',m,lv,rfl,_⟩:=h
  rfl
 ·obtain⟨p,n,l,h',m,lv,rfl,⟨dx,hp⟩,t⟩:=h
  refine⟨_,aJ (bQ (fU vQ (aU (pv 0) rfl) (aU (pv 0) rfl) (cA _))),?_⟩
  refine⟨_,rfl,p,C,dx,_,_,rfl,hp,T.cl,T.nM,rfl,_,rfl,p,C,dx,_,_,rfl,hp,T.cl,T.nH,rfl,rfl,?_⟩
  have e:decide (V.int m=V.int h')=decide (m=h'):=by rw [pE,Bool.eq_iff_iff];simp
  rw [e]
  exact t
theorem scLent:aR ["self"] ["self"] (aH lZ):=⟨rfl,rfl,rfl,by decide +kernel,rfl,by decide +kernel,by decide +kernel⟩
theorem ok_lent {f C:Addr} {fd:FuncData} (F:Fun K "is_lent" "Piece.is_lent" lZ f fd) (T:Pl K mg C):aK P w K mg base CX0 1 f fd ["self"] (tW C):=by
 refine F.ok scLent (fun vs H Q E h=>?_) (fun cdv A outer s H vs Q E hr h=>?_)
 ·obtain⟨p,n,l,h',m,lv,rfl,_⟩:=h
  rfl
 ·obtain⟨p,n,l,h',m,lv,rfl,⟨dx,hp⟩,t⟩:=h
  refine⟨_,aJ (bQ (fU op_notN (aU (pv 0) rfl) eZ (cA _))),?_⟩
  exact⟨_,rfl,p,C,dx,_,_,rfl,hp,T.cl,T.nD,rfl,rfl,t⟩
theorem scFree:aR ["self"] ["self"] (aH mI):=⟨rfl,rfl,rfl,by decide +kernel,rfl,by decide +kernel,by decide +kernel⟩
theorem ok_free {f fL fD C:Addr} {fd fdL fdD:FuncData} (F:Fun K "is_free" "Piece.is_free" mI f fd) (T:Pl K mg C) (GL:aK P w K mg base CX0 1 fL fdL ["self"] (tW C)) (bL:aP K fdL ["self"] []) (mL:cJ K C "is_lent" fL)
  (GD:aK P w K mg base CX0 1 fD fdD ["self"] (uB C)) (bD:aP K fdD ["self"] []) (mD:cJ K C "is_done" fD):aK P w K mg base CX0 2 f fd ["self"] (xA C):=by
 refine F.ok scFree (fun vs H Q E h=>?_) (fun cdv A outer s H vs Q E hr h=>?_)
 ·obtain⟨p,n,l,h',m,lv,rfl,_⟩:=h
  rfl
 ·obtain⟨p,n,l,h',m,lv,rfl,⟨dx,hp⟩,t⟩:=h
  refine⟨_,aJ (bQ (iU (xK (cN (pv 0) T.cl mL GL hr bL .nil aY)) (kJ (xK (cN (pv 0) T.cl mD GD hr bD .nil aY))))),?_⟩
  refine⟨_,rfl,p,dx,_,rfl,hp,rfl,p,n,l,h',m,lv,rfl,⟨dx,hp⟩,_,rfl,_,rfl,?_⟩
  refine dU (fun hc=>?_) (fun hc=>?_)
  ·have e:decide (lv=.non)=true:=by simpa using hc
   rw [e] at t
   exact⟨_,rfl,p,dx,_,rfl,hp,rfl,p,n,l,h',m,lv,rfl,⟨dx,hp⟩,_,rfl,t⟩
  ·have e:decide (lv=.non)=false:=by simpa using hc
   rw [e] at t
   exact t
theorem scHasT:aR ["self","token"] ["self","token"] (aH sK):=⟨rfl,rfl,rfl,by decide +kernel,rfl,by decide +kernel,by decide +kernel⟩
theorem ok_hasT {f fL C:Addr} {fd fdL:FuncData} (F:Fun K "has_token" "Piece.has_token" sK f fd) (T:Pl K mg C) (GL:aK P w K mg base CX0 1 fL fdL ["self"] (tW C)) (bL:aP K fdL ["self"] []) (mL:cJ K C "is_lent" fL):aK P w K mg base CX0 2 f fd ["self","token"] (wZ C):=by
 refine F.ok scHasT (fun vs H Q E h=>?_) (fun cdv A outer s H vs Q E hr h=>?_)
 ·obtain⟨p,n,l,h',m,i,lv,o,rfl,_⟩:=h
  rfl
 ·obtain⟨p,n,l,h',m,i,lv,o,rfl,⟨dx,hp⟩,hl,t⟩:=h
  refine⟨_,aJ (bQ (iU (cN (pv 0) T.cl mL GL hr bL .nil aY) (kJ (fU vQ (aX cI (aU (pv 0) rfl) aD (fun _ _=>rfl)) (pv 1) (cA _))))),?_⟩
  refine⟨_,rfl,p,dx,_,rfl,hp,rfl,p,n,l,h',m,lv,rfl,⟨dx,hp⟩,_,rfl,?_⟩
  rw [hl.non]
  cases o with
  | none=>exact dS t
  | some z=>
   obtain⟨a,x,u⟩:=z
   refine eL ?_
   cases lv with
   | ref q=>
    refine⟨_,rfl,p,C,dx,_,_,rfl,hp,T.cl,T.nD,rfl,q,_,_,_,rfl,rfl,SqT.of hl,aM (j:=0) rfl,_,rfl,rfl,?_⟩
    have e:decide (V.int a=V.int i)=decide (a=i):=by rw [pE,Bool.eq_iff_iff];simp
    rw [e]
    exact t
   | _=>exact hl.elim
theorem scShown:aR ["self"] ["self"] (aH jH):=⟨rfl,rfl,rfl,by decide +kernel,rfl,by decide +kernel,by decide +kernel⟩
theorem AcZ {f C:Addr} {fd:FuncData} (F:Fun K "shown" "Piece.shown" jH f fd) (T:Pl K mg C):aK P w K mg base CX0 1 f fd ["self"] (tS C):=by
 refine F.ok scShown (fun vs H Q E h=>?_) (fun cdv A outer s H vs Q E hr h=>?_)
 ·obtain⟨p,n,l,h',m,lv,rfl,_⟩:=h
  rfl
 ·obtain⟨p,n,l,h',m,lv,rfl,⟨dx,hp⟩,t⟩:=h
  refine⟨_,aJ (bQ (cF (aA (aU (pv 0) rfl) (aA (aU (pv 0) rfl) (aA (aU (pv 0) rfl) (aA (aU (pv 0) rfl) (aA (aU (pv 0) rfl) aE))))))),?_⟩
  exact⟨_,rfl,p,C,dx,_,_,rfl,hp,T.cl,T.nN,rfl,_,rfl,p,C,dx,_,_,rfl,hp,T.cl,T.nL,rfl,_,rfl,p,C,dx,_,_,rfl,hp,T.cl,T.nH,rfl,_,rfl,p,C,dx,_,_,rfl,hp,T.cl,T.nM,rfl,_,rfl,p,C,dx,_,_,rfl,hp,T.cl,T.nD,rfl,by show 5≤sizeLine;decide,t⟩
end
end Ls
namespace L2
open PySem PySem.Spec PyProof.Rows PySem.W
structure FunC (K:PySem.W.Frag) (x qual:Str) (st:Stmt) (f:Addr) (fd:FuncData) (c:Addr):Prop where
 ex:∃(oc:Value) (od:Option Addr) (kV doc pm:Value) (an:Option Addr) (ct:Value) (osl:Array (Option Value)),fd=PySem.W.fnOf x qual (aQ st) (aO st) (aH st) .none kV doc pm an (.ref c) ct∧K.lookup f=some ⟨oc,od,.func fd,osl⟩∧PySem.W.codeIn K (.ref c) qual=true
 kp:PySem.W.keepIn K (.ref f)=true
section
variable {P:Program} {w:World} {K:PySem.W.Frag} {mg:Str→Option Value} {base:Heap} {x qual:Str} {st:Stmt} {f c:Addr} {fd:FuncData}
theorem FunC.toFun (F:FunC K x qual st f fd c):Fun K x qual st f fd:=by
 obtain⟨⟨oc,od,kV,doc,pm,an,ct,osl,e,l,h⟩,k⟩:=F
 exact⟨⟨oc,od,kV,doc,pm,an,_,ct,osl,e,l,h⟩,k⟩
theorem FunC.ok {N ps:List Str} {k:Nat} {sp:Sp} (F:FunC K x qual st f fd c) (S:aR N ps (aH st)) (len:∀vs H Q E,sp vs H Q E→vs.length=ps.length)
  (hbody:∀(A:Around) (outer:List Env) (s:Shared) (H:Hp) (vs:List V) (Q:VK) (E:XK),Room k (A.deeper (envOfC qual (aH st) s.heap.objs.size f (.ref c)))→sp vs H Q E →
   ∃t,PSs (kO CX0 P w K mg base N qual (aH st) f (.ref c) A outer s H E).nox (aO st) t∧t { nx:=fun _ H'=>Q .non H',rt:=Q } (dO N vs) H):aK P w K mg base CX0 (k+1) f fd ps sp:=by
 obtain⟨oc,od,kV,doc,pm,an,ct,osl,rfl,lk,hcd⟩:=F.ex
 refine fn_of lk hcd S len fun A outer s H vs Q E hr hsp=>?_
 obtain⟨t,h,q⟩:=hbody A outer s H vs Q E hr hsp
 exact⟨t,h.nox,q⟩
theorem zH {oc:Value} {od an:Option Addr} {osl:Array (Option Value)} {kV doc pm ct:Value} (l:K.lookup f=some ⟨oc,od,.func (PySem.W.fnOf x qual (aQ st) (aO st) (aH st) .none kV doc pm an (.ref c) ct),osl⟩)
  (h:PySem.W.codeIn K (.ref c) qual=true) (k:PySem.W.keepIn K (.ref f)=true):FunC K x qual st f (PySem.W.fnOf x qual (aQ st) (aO st) (aH st) .none kV doc pm an (.ref c) ct) c:=⟨⟨oc,od,kV,doc,pm,an,ct,osl,rfl,l,h⟩,k⟩
end
def cT (H H':Hp):Prop:=∀b o,H b=some o→(∃ps,o=.tbl ps)∨H' b=some o
theorem aL.toT {H H':Hp} (h:aL H H'):cT H H':=fun b o e=>.inr (h b o e)
theorem cT.trans {H H1 H2:Hp} (a:cT H H1) (b:cT H1 H2):cT H H2:=fun c o e=>by
 rcases a c o e with z|z
 ·exact .inl z
 ·exact b c o z
theorem dY.toT {T:Addr} {H H':Hp} {ps:Array Value} (hT:H T=some (.tbl ps)) (h:dY T H H'):cT H H':=fun b o e=>by
 by_cases z:b=T
 ·subst z
  rw [hT] at e
  cases e
  exact .inl ⟨ps,rfl⟩
 ·exact .inr (h b o z e)
theorem dY.same {T:Addr} {H H1 H2:Hp} (k:dY T H H1) (s:aL H1 H2):dY T H H2:=fun b o n e=>s _ _ (k b o n e)
theorem dY.pre {T:Addr} {H H1 H2:Hp} (s:aL H H1) (k:dY T H1 H2):dY T H H2:=fun b o n e=>k b o n (s _ _ e)
theorem dY.free {T:Addr} {H H':Hp} {ps:Array Value} (hT:H' T=some (.tbl ps)) (k:dY T H H') {a:Addr} (h:H' a=none):H a=none:=by
 cases q:H a with
 | none=>rfl
 | some o=>
  by_cases z:a=T
  ·rw [z,hT] at h
   cases h
  ·rw [k a o z q] at h
   cases h
theorem cT.at {H H':Hp} {b:Addr} {o:HO} (h:cT H H') (e:H b=some o) (n:∀ps,o≠.tbl ps:=by intro _ z;cases z):H' b=some o:=by
 rcases h b o e with ⟨ps,z⟩|z
 ·exact absurd z (n ps)
 ·exact z
theorem Tab.same {H H':Hp} {T:Addr} {pos:Pos} {q:Str} (h:aL H H') (t:Tab H T pos q):Tab H' T pos q:=by
 obtain⟨ps,e,ht,hc⟩:=t
 refine⟨ps,h _ _ e,ht,?_⟩
 rcases hc with z|⟨c',z,hC⟩
 ·exact .inl z
 ·exact .inr ⟨c',z,h _ _ hC⟩
end L2
namespace Ls
open PySem L2 PySem.W
theorem _root_.L2.Room.u1 {k:Nat} {A:Around} (hr:Room k A):A.in1.units<cLine:=by have:=hr.un;show A.units+1<_;omega
theorem AeO:bootBuiltins "min"=some (.builtin "min"):=by decide +kernel
structure Pc where
 n:Int
 l:Int
 h:Int
 m:Int
 o:Option (Int × Str × Int)
def gG (C:Addr) (H:Hp) (p:Addr) (c:Pc):Prop:=∃lv,rT C H p c.n c.l c.h c.m lv∧nZ H lv c.o
theorem rT.sameT {C:Addr} {H H':Hp} {p:Addr} {n l h m:Int} {lv:V} (e:cT H H') (x:rT C H p n l h m lv):rT C H' p n l h m lv:=by
 obtain⟨dx,q⟩:=x
 exact⟨dx,e.at q⟩
theorem nZ.sameT {H H':Hp} {lv:V} {o:Option (Int × Str × Int)} (e:cT H H') (x:nZ H lv o):nZ H' lv o:=by
 cases lv <;> cases o <;> first|exact x|exact e.at x
theorem gG.sameT {C:Addr} {H H':Hp} {p:Addr} {c:Pc} (e:cT H H') (x:gG C H p c):gG C H' p c:=by
 obtain⟨lv,a,b⟩:=x
 exact⟨lv,a.sameT e,b.sameT e⟩
def Pc.k (c:Pc):Int × Int:=(-(c.h-c.m),c.l)
def rQ:Pos:=match aO eO with
 | [.Return (some (.Call _ _ [⟨_,e,_⟩] _)) _]=>e.pos
 | _=>⟨0,0,0,0⟩
abbrev jA:Str:="greatest.<locals>.<lambda>"
def uA (C T:Addr):Sp:=fun vs H Q _=>∃(l:Addr) (ps:List Addr) (cs:List Pc),vs=[.ref l]∧H l=some (.lst (ps.map V.ref))∧Paired (gG C H) ps cs∧ps≠[]∧Tab H T rQ jA ∧
 ∀(i:Nat) (p:Addr) (c:Pc) (H':Hp),dY T H H'→Tab H' T rQ jA→ps[i]?=some p→cs[i]?=some c→(∀j c',cs[j]?=some c'→¬ ltP c'.k c.k∧(j<i→ltP c.k c'.k))→Q (.ref p) H'
section
variable {P:Program} {w:World} {K:PySem.W.Frag} {mg:Str→Option Value} {base:Heap}
theorem xG:aR ["pieces"] ["pieces"] (aH eO):=⟨rfl,rfl,rfl,by decide +kernel,rfl,by decide +kernel,by decide +kernel⟩
theorem ndPc:(["piece"]:List Str).Nodup:=by decide +kernel
theorem vV {f c C T fR:Addr} {fd fdR:FuncData} (F:FunC K "greatest" "greatest" eO f fd c) (hT:codeHdIn K c T=true) (hB:uZ base mg) (hm:mg "min"=none) (TP:Pl K mg C)
  (GR:aK P w K mg base CX0 1 fR fdR ["self"] (tT C)) (bR:aP K fdR ["self"] []) (mR:cJ K C "rest" fR):aK P w K mg base CX0 4 f fd ["pieces"] (uA C T):=by
 refine F.ok xG (fun vs H Q E h=>?_) (fun A outer s H vs Q E hr h=>?_)
 ·obtain⟨l,ps,cs,rfl,_⟩:=h
  rfl
 ·obtain⟨l,ps,cs,rfl,hl,pr,ne,tb,t⟩:=h
  refine⟨_,aJ (bQ (pe_minK rfl hr.u1 (by rfl) hm AeO (aA (pv 0) aE) (oW (AcT (q:=jA) (clos:=[]) rfl hT hB rfl rfl rfl trivial) uI))),?_⟩
  refine⟨_,rfl,tb,fun g c' ctv H1 kt nf tb1 hc1 hf1=>?_⟩
  have s1:cT H H1:=by
   obtain⟨qs,e,_⟩:=tb
   exact kt.toT e
  have hl1:=s1.at hl
  refine⟨l,g,ps,fun i=>((cs[i]?).map Pc.k).getD (0,0),fun H'=>aL H1 H',rfl,rfl,aL.refl _,fun H' j=>j _ _ hl1,ne,fun i p hp=>?_,fun i p H' (j:aL H1 H') hp best=>?_⟩
  ·obtain⟨pc,hpc,lv,hat,hld⟩:=bO pr hp
   obtain⟨dx,hdx⟩:=hat.sameT s1
   have ek:((cs[i]?).map Pc.k).getD (0,0)=pc.k:=by rw [hpc];rfl
   refine zD (k:=1) (N:=["piece"]) (p:="piece") (J:=fun H'=>aL H1 H') (tb:=tTup (gX (tUn (rU fun i=>.int (-i)) (tMeth C "rest" (tT C) [] E0 (jR 0) lR)) (gX (tFld K (jR 0) "low") lR))) (fun H' j=>j _ _ hf1) (fun H' j=>j _ _ hc1) id hr.in1 ?S ?B ?body ?J
   case S=>exact⟨rfl,rfl,rfl,by decide +kernel,rfl,by decide +kernel,by decide +kernel⟩
   case B=>exact fun u=>rfl
   case body=>exact fun s' H' hr'=>cF (aA (oB iQ (cN (pv 0) TP.cl mR GR hr' bR .nil aY)) (aA (aU (pv 0) rfl) aE))
   intro H' (j:aL H1 H')
   have hp':=j _ _ hdx
   refine⟨_,rfl,p,dx,_,rfl,hp',rfl,p,_,_,_,_,lv,rfl,⟨dx,hp'⟩,_,rfl,_,rfl,p,C,dx,_,_,rfl,hp',TP.cl,TP.nL,rfl,by show 2≤sizeLine;decide,fun r nr=>⟨⟨⟨r,rfl,?_⟩,fun b xs e=>?_⟩,j.trans (aI nr)⟩⟩
   ·rw [aB]
    show some (HO.tup [V.int (-(pc.h-pc.m)),V.int pc.l])=some (HO.tup [V.int (((cs[i]?).map Pc.k).getD (0,0)).1,V.int (((cs[i]?).map Pc.k).getD (0,0)).2])
    rw [ek]
    rfl
   ·exact aI nr _ _ e
  ·obtain⟨pc,hpc,_⟩:=bO pr hp
   refine t i p pc H' (kt.same j) (tb1.same j) hp hpc fun j' c'' hj=>?_
   have lj:j'<ps.length:=by
    have:=pr.length
    have:=(List.getElem?_eq_some_iff.mp hj).1
    omega
   have b:¬ ltP (((cs[j']?).map Pc.k).getD (0,0)) (((cs[i]?).map Pc.k).getD (0,0))∧(j'<i→ltP (((cs[i]?).map Pc.k).getD (0,0)) (((cs[j']?).map Pc.k).getD (0,0))):=best j' lj
   rw [hj,hpc] at b
   exact b
end
end Ls
namespace Ls
open PySem L2 PySem.W
abbrev bf (pw sh d:Addr) (sp ev le nn nt mo:Int):List (Str × V):=[("work",.ref pw),("span",.int sp),("every",.int ev),("least",.int le),("sheet",.ref sh),("by_number",.ref d),("next_number",.int nn),("next_token",.int nt),("moment",.int mo)]
def dkv (ps:List Addr) (cs:List Pc):List (Key × V):=(cs.zip ps).map fun x=>((Sum.inl x.1.n:Key),V.ref x.2)
structure iO (CB CP:Addr) (H:Hp) (b pw sh d:Addr) (sp ev le nn nt mo:Int) (ps:List Addr) (cs:List Pc):Prop where
 ob:∃dx,H b=some (.ins CB dx (bf pw sh d sp ev le nn nt mo))
 dc:H d=some (.dK (dkv ps cs))
 pc:Paired (gG CP H) ps cs
theorem eF {C:Addr} {H H':Hp} {ps:List Addr} {cs:List Pc} (e:cT H H') (h:Paired (gG C H) ps cs):Paired (gG C H') ps cs:=bV (fun _ _ x=>x.sameT e) h
theorem iO.sameT {CB CP:Addr} {H H':Hp} {b pw sh d:Addr} {sp ev le nn nt mo:Int} {ps:List Addr} {cs:List Pc} (e:cT H H') (h:iO CB CP H b pw sh d sp ev le nn nt mo ps cs):iO CB CP H' b pw sh d sp ev le nn nt mo ps cs:=by
 obtain⟨⟨dx,h1⟩,h2,h3⟩:=h
 exact⟨⟨dx,e.at h1⟩,e.at h2,eF e h3⟩
structure Bl (K:PySem.W.Frag) (mg:Str→Option Value) (C:Addr):Prop where
 cl:Cls K C
 nW:dE K C "work"
 nS:dE K C "span"
 nE:dE K C "every"
 nL:dE K C "least"
 nH:dE K C "sheet"
 nB:dE K C "by_number"
 nN:dE K C "next_number"
 nT:dE K C "next_token"
 nM:dE K C "moment"
 mgC:mg "Book"=some (.ref C)
theorem AeE {C:Addr} {H:Hp} {ps:List Addr} {cs:List Pc} (h:Paired (gG C H) ps cs):(dkv ps cs).map (·.2)=ps.map V.ref:=by
 unfold dkv
 rw [List.map_map]
 have e:(cs.zip ps).map (·.2)=ps:=List.map_snd_zip (Nat.le_of_eq h.length)
 conv=>rhs;rw [← e]
 rw [List.map_map]
 rfl
theorem lL {C:Addr} {H:Hp} {ps:List Addr} {cs:List Pc} (h:Paired (gG C H) ps cs):(dkv ps cs).length=cs.length:=by
 unfold dkv
 rw [List.length_map,List.length_zip,h.length]
 omega
theorem uQ {ps:List Addr} {cs:List Pc} {i:Nat} {e:Key × V} (h:(dkv ps cs)[i]?=some e):∃c p,cs[i]?=some c∧ps[i]?=some p∧e=(Sum.inl c.n,.ref p):=by
 unfold dkv at h
 rw [List.getElem?_map] at h
 cases hz:(cs.zip ps)[i]? with
 | none=>rw [hz] at h;cases h
 | some x=>
  rw [hz] at h
  cases h
  obtain⟨h1,h2⟩:=List.getElem?_zip_eq_some.mp hz
  exact⟨_,_,h1,h2,rfl⟩
theorem kK {α β:Type} {F:α→β→Prop}:∀{xs:List α} {ys:List β},Paired F xs ys→∀z ∈ ys.zip xs,F z.2 z.1
 | _,_,.nil,z,hz=>by simp at hz
 | _,_,.cons r t,z,hz=>by
  rcases List.mem_cons.mp (by simpa using hz) with rfl|hz
  ·exact r
  ·exact kK t z hz
theorem nF {α β:Type} {F:α→β→Prop}:∀{L:List (β × α)},(∀z ∈ L,F z.2 z.1)→Paired F (L.map (·.2)) (L.map (·.1))
 | [],_=>.nil
 | z::L,h=>.cons (h z (List.mem_cons_self ..)) (nF fun q hq=>h q (List.mem_cons_of_mem _ hq))
theorem byLow {C:Addr} {H:Hp} {ps:List Addr} {cs:List Pc} {ys:List V} (h:Paired (gG C H) ps cs) (b:ByKey (cs.map Pc.l) (ps.map V.ref) ys):∃(ps':List Addr) (cs':List Pc),ys=ps'.map V.ref∧cs'.Perm cs∧cs'.Pairwise (fun x y=>x.l≤y.l)∧∀H',Paired (gG C H') ps cs→Paired (gG C H') ps' cs':=by
 obtain⟨L,p1,rfl,p3⟩:=b
 have e1:(cs.map Pc.l).zip (ps.map V.ref)=(cs.zip ps).map fun x=>(x.1.l,V.ref x.2):=by
  rw [List.zip_map]
  rfl
 rw [e1] at p1
 obtain⟨M,m1,rfl⟩:=qH _ p1
 refine⟨M.map (·.2),M.map (·.1),by rw [List.map_map,List.map_map];rfl,?_,?_,fun H' h'=>nF fun z hz=>kK h' z (m1.mem_iff.mp hz)⟩
 ·have:=m1.map (·.1)
  rwa [List.map_fst_zip (Nat.le_of_eq h.length.symm)] at this
 ·rw [List.pairwise_map] at p3 ⊢
  exact p3
def pLam:Expr:=match aO eS with
 | [.Return (some (.ListComp _ [⟨_,.Call _ _ [⟨_,e,_⟩] _,_,_⟩] _ _)) _]=>e
 | _=>.Constant .none 0 ⟨0,0,0,0⟩
def pPos:Pos:=pLam.pos
abbrev oF:Str:="Book.pieces.<locals>.<lambda>"
def iK (H:Hp) (v:V) (c:Pc):Prop:=∃t lv,v=.ref t∧H t=some (.tup [.int c.n,.int c.l,.int c.h,.int c.m,lv])∧nZ H lv c.o
theorem nZ.move {H H':Hp} {lv:V} {o:Option (Int × Str × Int)} (f:∀q ys,H q=some (.tup ys)→H' q=some (.tup ys)) (x:nZ H lv o):nZ H' lv o:=by
 cases lv <;> cases o <;> first|exact x|exact f _ _ x
theorem cT.free {H H':Hp} (e:cT H H') {a:Addr} (h:H' a=none) (hT:∀ps,H a≠some (.tbl ps)):H a=none:=by
 cases q:H a with
 | none=>rfl
 | some o=>
  rcases e a o q with ⟨ps,rfl⟩|z
  ·exact absurd q (hT ps)
  ·rw [h] at z
   cases z
def gY (CB CP T:Addr):Sp:=fun vs H Q _=>∃(b pw sh d:Addr) (sp ev le nn nt mo:Int) (ps:List Addr) (cs:List Pc),vs=[.ref b]∧iO CB CP H b pw sh d sp ev le nn nt mo ps cs∧cs.length≤1000∧cs.Pairwise (fun x y=>x.l≤y.l)∧Tab H T pPos oF ∧
 ∀(r:Addr) (H':Hp) (rs:List V) (cs':List Pc),dY T H H'→H r=none→Tab H' T pPos oF→H' r=some (.lst rs)→cs'.Perm cs→cs'.Pairwise (fun x y=>x.l≤y.l)→Paired (iK H') rs cs'→Q (.ref r) H'
section
variable {P:Program} {w:World} {K:PySem.W.Frag} {mg:Str→Option Value} {base:Heap}
theorem AcD:aR ["self"] ["self"] (aH eS):=⟨rfl,rfl,rfl,by decide +kernel,rfl,by decide +kernel,by decide +kernel⟩
theorem AaM {f c CB CP T fS:Addr} {fd fdS:FuncData} (F:FunC K "pieces" "Book.pieces" eS f fd c) (hT:codeHdIn K c T=true) (hB:uZ base mg) (hm:mg "sorted"=none) (TB:Bl K mg CB) (TP:Pl K mg CP)
  (GS:aK P w K mg base CX0 1 fS fdS ["self"] (tS CP)) (bS:aP K fdS ["self"] []) (mS:cJ K CP "shown" fS):aK P w K mg base CX0 4 f fd ["self"] (gY CB CP T):=by
 refine F.ok AcD (fun vs H Q E h=>?_) (fun A outer s H vs Q E hr h=>?_)
 ·obtain⟨b,pw,sh,d,sp,ev,le,nn,nt,mo,ps,cs,rfl,_⟩:=h
  rfl
 ·obtain⟨b,pw,sh,d,sp,ev,le,nn,nt,mo,ps,cs,rfl,hb,lc,hup,tb,t⟩:=h
  have hr1:Room 1 (A.deeper (PyProof.Rows.envOfC "Book.pieces" (aH eS) s.heap.objs.size f (.ref c))):=hr.mono (by decide)
  refine⟨_,aJ (bQ (gL (NB:=["piece"]) (g:=dX 0) rfl (by decide +kernel) (by decide +kernel) (by decide +kernel) rfl
   (oX (AcS rfl (by rfl) hm wN (aA (uK (aU (pv 0) rfl)) aE) (oW (AcT (q:=oF) (clos:=[]) rfl hT hB rfl rfl rfl trivial) uI)))
   (fun C s H fp pn=>bX (i:=0) ndPc rfl (Or.inl rfl) (.inr rfl)) (fun C s H fp pn=>eE) (fun C s H fp pn=>cN (pv 0) TP.cl mS GS hr1 bS .nil aY))),?_⟩
  have sl:sizeLine=16777216:=sizeLine_eq
  obtain⟨⟨dx,hbo⟩,hdc,hpc⟩:=id hb
  refine⟨_,rfl,b,CB,dx,_,_,rfl,hbo,TB.cl,TB.nB,rfl,.inr (.inr (.inl ⟨rfl,.inl ⟨_,hdc⟩⟩)),d,_,rfl,rfl,hdc,fun v nv=>?_⟩
  have s1:aL H (upd H v (fO v d)):=aI nv
  have e1:(upd H v (fO v d)) v=some (fO v d):=aB
  generalize upd H v (fO v d)=H1 at s1 e1 ⊢
  have tb1:=tb.same s1
  refine⟨tb1,fun g c' ctv H2 kt nf tb2 hc2 hf2=>?_⟩
  have s2:cT H1 H2:=by
   obtain⟨qs,e,_⟩:=tb1
   exact kt.toT e
  have t2:cT H H2:=(aL.toT s1).trans s2
  have nT:∀a,H2 a=none→H a=none:=fun a h=>by
   refine cT.free t2 h fun qs z=>?_
   obtain⟨rs,e,_⟩:=tb2
   by_cases y:a=T
   ·rw [y,e] at h
    cases h
   ·have:=kt _ _ y (s1 _ _ z)
    rw [h] at this
    cases this
  have hp2:=eF t2 hpc
  refine⟨v,d,g,dkv ps cs,cs.map Pc.l,fun H'=>aL H2 H',rfl,rfl,s2.at e1,s2.at (s1 _ _ hdc),aL.refl _,by rw [lL hpc,List.length_map],List.pairwise_map.mpr hup,fun i e k he hk=>?_,fun l ys H3 (j:aL H2 H3) nl bk=>?_⟩
  ·obtain⟨pc,p,h1,h2,rfl⟩:=uQ he
   obtain⟨pc',h1',lv,⟨dp,hat⟩,hld⟩:=bO hp2 h2
   rw [h1] at h1'
   cases h1'
   rw [List.getElem?_map,h1] at hk
   cases hk
   refine zD (k:=0) (N:=["piece"]) (p:="piece") (J:=fun H'=>aL H2 H') (tb:=tFld K (jR 0) "low") (fun H' j=>j _ _ hf2) (fun H' j=>j _ _ hc2) id (hr.in1).in1 ?S ?B ?body ?J
   case S=>exact⟨rfl,rfl,rfl,by decide +kernel,rfl,by decide +kernel,by decide +kernel⟩
   case B=>exact fun u=>rfl
   case body=>exact fun s' H' hr'=>aU (pv 0) rfl
   intro H' (j:aL H2 H')
   exact⟨_,rfl,p,CP,dp,_,_,rfl,j _ _ hat,TP.cl,TP.nL,rfl,rfl,j⟩
  ·rw [AeE hpc] at bk
   obtain⟨ps',cs',rfl,pm,so,mv⟩:=byLow hpc bk
   have lp:ps'.length=cs'.length:=(mv H hpc).length
   have lc':cs'.length=cs.length:=pm.length_eq
   refine⟨l,rfl,⟨_,SqL.of aB⟩,fun acc hacc=>?_⟩
   have s4:aL H3 (upd H3 l (.lst (ps'.map V.ref))):=aI nl
   have e4:(upd H3 l (.lst (ps'.map V.ref))) l=some (.lst (ps'.map V.ref)):=aB
   generalize upd H3 l (.lst (ps'.map V.ref))=H4 at s4 e4 hacc ⊢
   have j4:aL H2 H4:=j.trans s4
   have hp4:=mv H4 (eF (t2.trans (aL.toT j4)) hpc)
   refine⟨fun i m zs H'=>m=ps'.length-i∧i≤ps'.length∧aL H4 H'∧H' acc=some (.lst zs)∧Paired (iK H') zs (cs'.take i),⟨_,rfl,Nat.zero_le _,aI hacc,aB,.nil⟩,?_⟩
   rintro i m zs H' ⟨rfl,hi,sm,hA,rows⟩
   refine⟨hA,?_⟩
   by_cases hlt:i<ps'.length
   ·refine .inr ⟨⟨_,_,SqL.of (sm _ _ e4),List.getElem?_eq_getElem (by rw [List.length_map];exact hlt)⟩,?_⟩
    rintro y H'' ⟨rfl,hy⟩
    have ey:=hy _ (SqL.of (sm _ _ e4))
    rw [List.getElem?_map,List.getElem?_eq_getElem hlt] at ey
    cases ey
    obtain⟨pc,hpc',lv,⟨dp,hat⟩,hld⟩:=bO hp4 (List.getElem?_eq_getElem hlt)
    refine dD ?_
    refine eB ?_
    refine eL ?_
    refine⟨_,rfl,_,dp,_,rfl,sm _ _ hat,rfl,_,_,_,_,_,lv,rfl,⟨dp,sm _ _ hat⟩,fun q nq=>?_⟩
    have s5:aL H'' (upd H'' q (.tup [.int pc.n,.int pc.l,.int pc.h,.int pc.m,lv])):=aI nq
    have e5:(upd H'' q (.tup [.int pc.n,.int pc.l,.int pc.h,.int pc.m,lv])) q=some (.tup [.int pc.n,.int pc.l,.int pc.h,.int pc.m,lv]):=aB
    generalize upd H'' q (.tup [.int pc.n,.int pc.l,.int pc.h,.int pc.m,lv])=H5 at s5 e5 ⊢
    have hA5:=s5 _ _ hA
    have lz:zs.length=i:=by
     have:=rows.length
     rw [List.length_take] at this
     omega
    refine⟨hA5,by omega,_,?_,rfl,hlt,?_,aB,?_⟩
    ·omega
    ·intro b o z
     rw [aC (aG z hacc)]
     exact s5 _ _ (sm _ _ z)
    ·have kp:∀v c,iK H'' v c→iK (upd H5 acc (.lst (zs++[.ref q]))) v c:=fun v c ⟨t',lv',h1,h2,h3⟩=>by
      have nt:t'≠acc:=aW (s5 _ _ h2) hA5 (by intro z;cases z)
      exact⟨t',lv',h1,by rw [aC nt];exact s5 _ _ h2,h3.move fun q' ys h=>by rw [aC (aW (s5 _ _ h) hA5 (by intro z;cases z))];exact s5 _ _ h⟩
     rw [List.take_add_one,hpc']
     refine cP (bV (fun v c=>kp v c) rows) ?_
     have nq':q≠acc:=aW e5 hA5 (by intro z;cases z)
     exact⟨q,lv,rfl,by rw [aC nq'];exact e5,hld.move fun q' ys h=>by rw [aC (aG h hacc)];exact s5 _ _ (sm _ _ h)⟩
   ·refine .inl ⟨⟨_,SqL.of (sm _ _ e4),by rw [List.length_map];omega⟩,?_⟩
    have ei:cs'.take i=cs':=List.take_of_length_le (by omega)
    rw [ei] at rows
    refine t acc H' zs cs' ((dY.pre s1 kt).same (j4.trans sm)) (nT _ (j4.free hacc)) (tb2.same (j4.trans sm)) hA pm so rows
end
end Ls
namespace Ls
open PySem L2 PySem.W
def jZ:Sp:=fun vs H Q _=>∃(a b c:Int),vs=[.int a,.int b,.int c]∧1≤a∧1≤b∧1≤c∧b≤c∧∀H',aL H H'→Q .non H'
theorem bf_next {pw sh d:Addr} {sp ev le nn nt mo nn':Int}:dC "next_number" (.int nn') (bf pw sh d sp ev le nn nt mo)=bf pw sh d sp ev le nn' nt mo:=rfl
theorem AeF {C:Addr} {H:Hp} {ps:List Addr} {cs:List Pc} {p:Addr} {c:Pc} (h:Paired (gG C H) ps cs):dkv (ps++[p]) (cs++[c])=dkv ps cs++[(Sum.inl c.n,.ref p)]:=by
 unfold dkv
 rw [List.zip_append h.length.symm,List.map_append]
 rfl
def spNew (CB CP:Addr):Sp:=fun vs H Q _=>∃(b pw sh d:Addr) (sp ev le nn nt mo l h:Int) (ps:List Addr) (cs:List Pc),vs=[.ref b,.int l,.int h]∧iO CB CP H b pw sh d sp ev le nn nt mo ps cs∧(∀c ∈ cs,c.n<nn)∧cs.length<1000 ∧
 ∀(p:Addr) (H':Hp),(∀a o,H a=some o→a≠b→a≠d→H' a=some o)→H p=none→iO CB CP H' b pw sh d sp ev le (nn+1) nt mo (ps++[p]) (cs++[⟨nn,l,h,l,none⟩])→Q (.ref p) H'
section
variable {P:Program} {w:World} {K:PySem.W.Frag} {mg:Str→Option Value} {base:Heap}
theorem lB:aR ["span","every","least","bound"] ["span","every","least"] (aH iG):=⟨rfl,rfl,rfl,by decide +kernel,rfl,by decide +kernel,by decide +kernel⟩
theorem vX {f fW:Addr} {fd fdW:FuncData} (F:Fun K "check_bounds" "check_bounds" iG f fd) (GW:aK P w K mg base CX0 1 fW fdW ["thing"] dW) (kW:keepIn K (.ref fW)=true) (bW:aP K fdW ["thing"] []) (mW:mg "is_whole"=some (.ref fW)):aK P w K mg base CX0 2 f fd ["span","every","least"] jZ:=by
 refine F.ok lB (fun vs H Q E h=>?_) (fun cdv A outer s H vs Q E hr h=>?_)
 ·obtain⟨a,b,c,rfl,_⟩:=h
  rfl
 ·obtain⟨a,b,c,rfl,h1,h2,h3,h4,t⟩:=h
  refine⟨_,aF (eG PassesOwn.never rfl (gQ (cF (aA (pv 0) (aA (pv 1) (aA (pv 2) aE))))) (bX (i:=3) lB.nd rfl (Or.inl rfl))
   (aJ (cK (PW.pt (gK (cY (cX (bJ GW hr rfl mW kW bW .nil aY (aA (pv 3) aE)))) (eV (bZ eU (pv 3) aD (cA _))))) cC aZ)))
   (aJ (cK (bZ eU (pv 2) (pv 1) (cA _)) cC aZ)),?_⟩
  refine⟨_,rfl,_,rfl,_,rfl,by show 3≤sizeLine;decide,fun r nr=>?_⟩
  have s1:aL H (upd H r (.tup [.int a,.int b,.int c])):=aI nr
  have e1:(upd H r (.tup [.int a,.int b,.int c])) r=some (.tup [.int a,.int b,.int c]):=aB
  generalize upd H r (.tup [.int a,.int b,.int c])=H1 at s1 e1 ⊢
  have al:∀v ∈ [V.int a,.int b,.int c],∃i,v=.int i∧1≤i:=aN ⟨_,rfl,h1⟩ (aN ⟨_,rfl,h2⟩ (aN ⟨_,rfl,h3⟩ cO))
  refine⟨r,rfl,⟨_,SqT.of e1⟩,jQ (K:=K) (a:=r) (xs:=[V.int a,.int b,.int c]) (fun i σ G=>G=H1∧∃u,σ=[some (.int a),some (.int b),some (.int c),u]) ⟨rfl,_,rfl⟩ (fun i σ G _ h=>by rw [h.1];exact SqT.of e1) ?_ ?_⟩
  ·rintro i y σ G hi ⟨rfl,u,rfl⟩
   obtain⟨z,rfl,hz⟩:=al y (List.mem_of_getElem? hi)
   refine dD ?_
   refine⟨_,rfl,_,rfl,.kn (.int z),_,rfl,dS ?_⟩
   refine⟨_,rfl,_,_,rfl,rfl,_,rfl,?_⟩
   exact dU (fun hc=>absurd hc (by simp;omega)) fun _=>⟨rfl,_,rfl⟩
  ·rintro σ G ⟨rfl,u,rfl⟩
   refine⟨_,rfl,_,rfl,_,_,rfl,rfl,_,rfl,?_⟩
   exact dU (fun hc=>absurd hc (by simp;omega)) fun _=>t _ s1
theorem scNew:aR ["self","low","high","piece"] ["self","low","high"] (aH qB):=⟨rfl,rfl,rfl,by decide +kernel,rfl,by decide +kernel,by decide +kernel⟩
theorem ok_new {f CB CP fI:Addr} {fd fdI:FuncData} (F:Fun K "new_piece" "Book.new_piece" qB f fd) (TB:Bl K mg CB) (TP:Pl K mg CP) (GI:aK P w K mg base CX0 1 fI fdI ["self","number","low","high"] (tU CP)) (bI:aP K fdI ["self","number","low","high"] []) (MK:Mk K CP fI):
  aK P w K mg base CX0 3 f fd ["self","low","high"] (spNew CB CP):=by
 refine F.ok scNew (fun vs H Q E h=>?_) (fun cdv A outer s H vs Q E hr h=>?_)
 ·obtain⟨b,pw,sh,d,sp,ev,le,nn,nt,mo,l,h',ps,cs,rfl,_⟩:=h
  rfl
 ·obtain⟨b,pw,sh,d,sp,ev,le,nn,nt,mo,l,h',ps,cs,rfl,hb,lt,ln,t⟩:=h
  have hu:(A.deeper (PyProof.Rows.envOfC "Book.new_piece" (aH qB) s.heap.objs.size f cdv)).units+1<cLine:=by have:=hr.un;omega
  refine⟨_,aF (bU (i:=3) scNew.nd rfl (Or.inl rfl) (iI MK GI hr rfl TP.mgC bI .nil aY (aA (aU (pv 0) rfl) (aA (pv 1) (aA (pv 2) aE)))))
   (aF (yS hu (aU (pv 0) rfl) (aU (pv 3) rfl) (pv 3) rfl)
   (aF (sQ (pv 0) aD AdU) (aJ (bQ (pv 3))))),?_⟩
  have sl:sizeLine=16777216:=sizeLine_eq
  obtain⟨⟨dx,hbo⟩,hdc,hpc⟩:=id hb
  refine⟨_,rfl,b,CB,dx,_,_,rfl,hbo,TB.cl,TB.nN,rfl,_,rfl,_,rfl,fun x dy nx ny ne=>⟨x,dy,nn,l,h',rfl,aB,rfl,?_⟩⟩
  rw [dP]
  have k2:∀a o,H a=some o→(upd (upd H dy (.own x)) x (.ins CP dy (pf nn l h' l .non))) a=some o:=fun a o e=>by
   rw [aC (aG e nx),aC (aG e ny)]
   exact e
  have e2:(upd (upd H dy (.own x)) x (.ins CP dy (pf nn l h' l .non))) x=some (.ins CP dy (pf nn l h' l .non)):=aB
  generalize upd (upd H dy (.own x)) x (.ins CP dy (pf nn l h' l .non))=H2 at k2 e2 ⊢
  refine⟨_,rfl,_,rfl,b,CB,dx,_,_,rfl,k2 _ _ hbo,TB.cl,TB.nB,rfl,_,rfl,x,CP,dy,_,_,rfl,e2,TP.cl,TP.nN,rfl,d,_,rfl,DPut.k (k:=(Sum.inl nn:Key)) (k2 _ _ hdc) (by rw [lL hpc];omega),?_⟩
  rw [vK _ (rW.mpr fun e he=>?_)]
  rotate_left
  ·obtain⟨i,hi⟩:=List.mem_iff_getElem?.mp he
   obtain⟨c,p,h1,_,rfl⟩:=uQ hi
   have:=lt c (List.mem_of_getElem? h1)
   intro z
   have z:(Sum.inl c.n:Key)=Sum.inl nn:=z
   cases z
   omega
  have nbd:b≠d:=aW hbo hdc (by intro z;cases z)
  have nbx:b≠x:=aG hbo nx
  have ndx:d≠x:=aG hdc nx
  refine⟨_,rfl,b,CB,dx,_,_,rfl,(by rw [aC nbd];exact k2 _ _ hbo),TB.cl,TB.nN,rfl,_,_,rfl,rfl,dx,_,(by rw [aC nbd];exact k2 _ _ hbo),(by show 9<1000;decide),?_⟩
  have k4:∀a o,H2 a=some o→a≠b→a≠d→(upd (upd H2 d (.dK (dkv ps cs++[((Sum.inl nn:Key),V.ref x)]))) b (.ins CB dx (dC "next_number" (.int (nn+1)) (bf pw sh d sp ev le nn nt mo)))) a=some o:=fun a o e n1 n2=>by
   rw [aC n1,aC n2]
   exact e
  refine⟨_,rfl,t x _ (fun a o e n1 n2=>k4 a o (k2 a o e) n1 n2) nx ⟨⟨dx,by rw [aB,bf_next]⟩,by rw [aC nbd.symm,aB,AeF hpc],?_⟩⟩
  refine cP (bV (fun p c ⟨lv,⟨dp,ha⟩,hl⟩=>?_) hpc) ⟨.non,⟨dy,k4 _ _ e2 nbx.symm ndx.symm⟩,trivial⟩
  have npb:p≠b:=fun z=>by
   subst z
   rw [hbo] at ha
   have:=Option.some.inj ha
   injection this with _ _ e
   exact absurd e (by intro z;cases z)
  exact⟨lv,⟨dp,k4 _ _ (k2 _ _ ha) npb (aW ha hdc (by intro z;cases z))⟩,hl.move fun q ys h=>k4 _ _ (k2 _ _ h) (aW h hbo (by intro z;cases z)) (aW h hdc (by intro z;cases z))⟩
end
end Ls
namespace Ls
open PySem L2 PySem.W
def pcs:Nat→Lm.Ps→List Pc
 | _,[]=>[]
 | k,q::t=>⟨k,q.1,q.2,q.1,none⟩::pcs (k+1) t
theorem iV:∀(t:Lm.Ps) (k:Nat) (q:Int × Int),pcs k (t++[q])=pcs k t++[⟨((k+t.length:Nat):Int),q.1,q.2,q.1,none⟩]
 | [],k,q=>rfl
 | p::t,k,q=>by
  show _::pcs (k+1) (t++[q])=_::(pcs (k+1) t++_)
  rw [iV t (k+1) q]
  have e:k+1+t.length=k+(p::t).length:=by rw [List.length_cons];omega
  rw [e]
theorem eR:∀(t:Lm.Ps) (k:Nat),(pcs k t).length=t.length
 | [],_=>rfl
 | p::t,k=>by
  show (pcs (k+1) t).length+1=t.length+1
  rw [eR t]
theorem AcX:∀(t:Lm.Ps) (k:Nat),∀c ∈ pcs k t,c.n<((k+t.length:Nat):Int)
 | [],_,c,hc=>absurd hc (by simp [pcs])
 | p::t,k,c,hc=>by
  rcases List.mem_cons.mp hc with rfl|hc
  ·show (k:Int)<_
   rw [List.length_cons]
   omega
  ·have:=AcX t (k+1) c hc
   rw [List.length_cons]
   omega
def oU (CB CS CP:Addr):Sp:=fun vs H Q _=>∃(p dx q:Addr) (a:Lm.Ps) (sp ev le:Int),vs=[.ref p,.ref q,.int sp,.int ev,.int le]∧H p=some (.ins CB dx [])∧cW H q a∧Lm.Wk a∧a.length≤900∧1≤sp∧1≤ev∧1≤le∧ev≤le ∧
 ∀(sh spw sd d:Addr) (ws:Lm.Ps) (ps:List Addr) (H':Hp),(∀b o,H b=some o→b≠p→H' b=some o)→H d=none→H sd=none→sd≠d→cR CS H' sh spw sd ws []→Lm.Sh ws→(∀x,Lm.mem ws x↔Lm.mem a x)→ws.length≤a.length →
  iO CB CP H' p q sh d sp ev le a.length 0 0 ps (pcs 0 a)→Q .non H'
abbrev w4 (q:Addr) (sp ev le:Int):List (Str × V):=[("work",.ref q),("span",.int sp),("every",.int ev),("least",.int le)]
theorem f4 {q:Addr} {sp ev le:Int}:dC "least" (.int le) (dC "every" (.int ev) (dC "span" (.int sp) (dC "work" (.ref q) [])))=(w4 q sp ev le):=rfl
theorem f9 {q sh d:Addr} {sp ev le:Int}:dC "moment" (.int 0) (dC "next_token" (.int 0) (dC "next_number" (.int 0) (dC "by_number" (.ref d) (dC "sheet" (.ref sh) (w4 q sp ev le)))))=bf q sh d sp ev le 0 0 0:=rfl
section
variable {P:Program} {w:World} {K:PySem.W.Frag} {mg:Str→Option Value} {base:Heap}
theorem lA:aR ["self","work","span","every","least","low","high"] ["self","work","span","every","least"] (aH gA):=⟨rfl,rfl,rfl,by decide +kernel,rfl,by decide +kernel,by decide +kernel⟩
theorem AdF {f CB CS CP fC fB fI fN:Addr} {fd fdC fdB fdI fdN:FuncData} (F:Fun K "__init__" "Book.__init__" gA f fd) (TB:Bl K mg CB) (TS:Cl K mg CS)
  (GC:aK P w K mg base CX0 4 fC fdC ["work"] kX) (kC:keepIn K (.ref fC)=true) (bC:aP K fdC ["work"] []) (mC:mg "check_work"=some (.ref fC))
  (GB:aK P w K mg base CX0 2 fB fdB ["span","every","least"] jZ) (kB:keepIn K (.ref fB)=true) (bB:aP K fdB ["span","every","least"] []) (mB:mg "check_bounds"=some (.ref fB))
  (GI:aK P w K mg base CX0 6 fI fdI ["self","work"] (wX CS)) (bI:aP K fdI ["self","work"] []) (MK:Mk K CS fI)
  (GN:aK P w K mg base CX0 3 fN fdN ["self","low","high"] (spNew CB CP)) (bN:aP K fdN ["self","low","high"] []) (mN:cJ K CB "new_piece" fN):
  aK P w K mg base CX0 8 f fd ["self","work","span","every","least"] (oU CB CS CP):=by
 refine F.ok lA (fun vs H Q E h=>?_) (fun cdv A outer s H vs Q E hr h=>?_)
 ·obtain⟨p,dx,q,a,sp,ev,le,rfl,_⟩:=h
  rfl
 ·obtain⟨p,dx,q,a,sp,ev,le,rfl,hp,hw,wa,la,b1,b2,b3,b4,t⟩:=h
  have hr2:Room 2 (A.deeper (PyProof.Rows.envOfC "Book.__init__" (aH gA) s.heap.objs.size f cdv)):=hr.mono (by decide)
  have hr3:Room 3 (A.deeper (PyProof.Rows.envOfC "Book.__init__" (aH gA) s.heap.objs.size f cdv)):=hr.mono (by decide)
  have hr4:Room 4 (A.deeper (PyProof.Rows.envOfC "Book.__init__" (aH gA) s.heap.objs.size f cdv)):=hr.mono (by decide)
  refine⟨_,aF (cU (bJ GC hr4 rfl mC kC bC .nil aY (aA (pv 1) aE)))
   (aF (cU (bJ GB hr2 rfl mB kB bB .nil aY (aA (pv 2) (aA (pv 3) (aA (pv 4) aE)))))
   (aF (dF (pv 0) (pv 1) rfl) (aF (dF (pv 0) (pv 2) rfl) (aF (dF (pv 0) (pv 3) rfl) (aF (dF (pv 0) (pv 4) rfl)
   (aF (dF (pv 0) (iI MK GI hr rfl TS.mgC bI .nil aY (aA (pv 1) aE)) rfl)
   (aF (dF (pv 0) vM rfl) (aF (dF (pv 0) aD rfl) (aF (dF (pv 0) aD rfl) (aF (dF (pv 0) aD rfl)
   (aJ (eG PassesOwn.never rfl (gQ (pv 1)) (iH (n:=2) rfl (cS (bX (i:=5) lA.nd rfl (Or.inl rfl)) (cS (bX (i:=6) lA.nd rfl (Or.inl rfl)) fQ)))
    (aJ (cU (dQ (pv 0) TB.cl mN GN hr3 bN .nil aY (aA (pv 5) (aA (pv 6) aE))))))))))))))))),?_⟩
  have sl:sizeLine=16777216:=sizeLine_eq
  refine⟨_,rfl,q,a,rfl,hw,wa,by omega,?_⟩
  refine⟨_,rfl,_,rfl,_,rfl,sp,ev,le,rfl,b1,b2,b3,b4,fun H1 s1=>?_⟩
  refine⟨_,rfl,_,rfl,p,CB,dx,_,rfl,s1 _ _ hp,TB.cl,TB.nW,(by show 0<1000;decide),?_⟩
  refine⟨_,rfl,_,rfl,p,CB,dx,_,rfl,aB,TB.cl,TB.nS,(by show 1<1000;decide),?_⟩
  refine⟨_,rfl,_,rfl,p,CB,dx,_,rfl,aB,TB.cl,TB.nE,(by show 2<1000;decide),?_⟩
  refine⟨_,rfl,_,rfl,p,CB,dx,_,rfl,aB,TB.cl,TB.nL,(by show 3<1000;decide),?_⟩
  rw [dP,dP,dP,f4]
  have k2:∀b o,H b=some o→b≠p→(upd H1 p (.ins CB dx (w4 q sp ev le))) b=some o:=fun b o e n=>by rw [aC n];exact s1 _ _ e
  have e2:(upd H1 p (.ins CB dx (w4 q sp ev le))) p=some (.ins CB dx (w4 q sp ev le)):=aB
  have n2:∀b,(upd H1 p (.ins CB dx (w4 q sp ev le))) b=none→H b=none:=fun b e=>by
   cases z:H b with
   | none=>rfl
   | some o=>
    by_cases y:b=p
    ·rw [y,aB] at e
     cases e
    ·rw [k2 b o z y] at e
     cases e
  generalize upd H1 p (.ins CB dx (w4 q sp ev le))=H2 at k2 e2 n2 ⊢
  have hw2:cW H2 q a:=by
   obtain⟨xs,x1,x2⟩:=hw
   refine⟨xs,k2 _ _ x1 (aW x1 hp (by intro z;cases z)),bV (fun v r ⟨b,z1,z2⟩=>⟨b,z1,k2 _ _ z2 (aW z2 hp (by intro z;cases z))⟩) x2⟩
  refine⟨_,rfl,fun x dy nx ny ne=>⟨x,dy,q,a,rfl,aB,?_,wa,by omega,fun pw' sd ws H3 nsd S sh mm ll kp=>⟨rfl,?_⟩⟩⟩
  ·exact hw2.same fun b o e=>by rw [aC (aG e nx),aC (aG e ny)];exact e
  have k3:∀b o,H2 b=some o→H3 b=some o:=fun b o e=>kp b o (by rw [aC (aG e nx),aC (aG e ny)];exact e) (aG e nx)
  have nsd2:H2 sd=none:=by
   cases z:H2 sd with
   | none=>rfl
   | some o=>
    rw [aC (aG z nx),aC (aG z ny),z] at nsd
    cases nsd
  have hw3:=hw2.same k3
  refine⟨_,rfl,p,CB,dx,_,rfl,k3 _ _ e2,TB.cl,TB.nH,(by show 4<1000;decide),?_⟩
  intro d nd
  have npd:p≠d:=fun z=>by
   rw [← z,aB] at nd
   cases nd
  have nd3:H3 d=none:=by rw [aC npd.symm] at nd;exact nd
  have nd2:H2 d=none:=by
   cases z:H2 d with
   | none=>rfl
   | some o=>rw [k3 _ _ z] at nd3;cases nd3
  refine⟨_,rfl,p,CB,dx,_,rfl,(by rw [aC npd];exact aB),TB.cl,TB.nB,(by show 5<1000;decide),?_⟩
  refine⟨_,rfl,p,CB,dx,_,rfl,aB,TB.cl,TB.nN,(by show 6<1000;decide),?_⟩
  refine⟨_,rfl,p,CB,dx,_,rfl,aB,TB.cl,TB.nT,(by show 7<1000;decide),?_⟩
  refine⟨_,rfl,p,CB,dx,_,rfl,aB,TB.cl,TB.nM,(by show 8<1000;decide),?_⟩
  rw [dP,dP,dP,f9]
  have k5:∀b o,H3 b=some o→b≠p→(upd (upd (upd H3 p (.ins CB dx (dC "sheet" (.ref x) (w4 q sp ev le)))) d (.dK [])) p (.ins CB dx (bf q x d sp ev le 0 0 0))) b=some o:=fun b o e n=>by
   rw [aC n,aC (aG e nd3),aC n]
   exact e
  have e5:(upd (upd (upd H3 p (.ins CB dx (dC "sheet" (.ref x) (w4 q sp ev le)))) d (.dK [])) p (.ins CB dx (bf q x d sp ev le 0 0 0))) p=some (.ins CB dx (bf q x d sp ev le 0 0 0)):=aB
  have d5:(upd (upd (upd H3 p (.ins CB dx (dC "sheet" (.ref x) (w4 q sp ev le)))) d (.dK [])) p (.ins CB dx (bf q x d sp ev le 0 0 0))) d=some (.dK []):=by rw [aC npd.symm,aB]
  generalize upd (upd (upd H3 p (.ins CB dx (dC "sheet" (.ref x) (w4 q sp ev le)))) d (.dK [])) p (.ins CB dx (bf q x d sp ev le 0 0 0))=H5 at k5 e5 d5 ⊢
  have ep3:H3 p=some (.ins CB dx (w4 q sp ev le)):=k3 _ _ e2
  have nsdd:sd≠d:=fun z=>by
   have:=S.dc
   rw [z,nd3] at this
   cases this
  have mv:∀G:Hp,(∀b o,H3 b=some o→b≠p→b≠d→G b=some o)→cW G q a∧cR CS G x pw' sd ws []:=fun G kg=>by
   have wm:∀r ps',cW H3 r ps'→cW G r ps':=fun r ps' ⟨xs,x1,x2⟩=>⟨xs,kg _ _ x1 (aW x1 ep3 (by intro z;cases z)) (aG x1 nd3),bV (fun v r ⟨b,z1,z2⟩=>⟨b,z1,kg _ _ z2 (aW z2 ep3 (by intro z;cases z)) (aG z2 nd3)⟩) x2⟩
   obtain⟨⟨dz,s1'⟩,s2',s3'⟩:=S
   have nxp:x≠p:=fun z=>by
    rw [z,e2] at nx
    cases nx
   exact⟨wm _ _ hw3,⟨dz,kg _ _ s1' nxp (aG s1' nd3)⟩,wm _ _ s2',kg _ _ s3' (aW s3' ep3 (by intro z;cases z)) nsdd⟩
  obtain⟨xs,x1,x2⟩:=id hw3
  have lx:xs.length=a.length:=x2.length
  refine⟨_,rfl,q,rfl,⟨_,SqT.of (k5 _ _ x1 (aW x1 ep3 (by intro z;cases z)))⟩,jQ (K:=K) (a:=q) (xs:=xs) (fun i σ G=>(∃ps,iO CB CP G p q x d sp ev le i 0 0 ps (pcs 0 (a.take i)))∧(∀b o,H3 b=some o→b≠p→b≠d→G b=some o)∧∃u v,σ=[some (.ref p),some (.ref q),some (.int sp),some (.int ev),some (.int le),u,v])
   ⟨⟨[],⟨dx,e5⟩,d5,.nil⟩,fun b o e n _=>k5 b o e n,_,_,rfl⟩ (fun i σ G _ ⟨_,kg,_⟩=>SqT.of (kg _ _ x1 (aW x1 ep3 (by intro z;cases z)) (aG x1 nd3))) ?_ ?_⟩
  ·rintro i y σ G hi ⟨⟨ps,hb⟩,kg,u,v,rfl⟩
   obtain⟨c,hc,r,rfl,hr'⟩:=bO x2 hi
   have il:i<a.length:=(List.getElem?_eq_some_iff.mp hc).1
   have lt:(a.take i).length=i:=by rw [List.length_take];omega
   refine⟨r,_,rfl,SqT.of (kg _ _ hr' (aW hr' ep3 (by intro z;cases z)) (aG hr' nd3)),rfl,_,_,rfl,_,_,rfl,rfl,?_⟩
   obtain⟨dz,hbo⟩:=hb.ob
   refine⟨_,rfl,p,dz,_,rfl,hbo,rfl,_,rfl,_,rfl,p,q,x,d,sp,ev,le,_,0,0,c.1,c.2,ps,_,rfl,hb,fun c' hc'=>?_,?_,fun p' G' kf np' hb'=>?_⟩
   ·have:=AcX _ _ c' hc'
    rw [lt] at this
    omega
   ·rw [eR,lt]
    omega
   ·refine⟨⟨ps++[p'],?_⟩,fun b o e n1 n2=>kf b o (kg b o e n1 n2) n1 n2,_,_,rfl⟩
    have e:pcs 0 (a.take (i+1))=pcs 0 (a.take i)++[⟨(i:Int),c.1,c.2,c.1,none⟩]:=by
     rw [List.take_add_one,hc]
     show pcs 0 (a.take i++[c])=_
     rw [iV,lt]
     simp
    rw [e]
    exact hb'
  ·rintro σ G ⟨⟨ps,hb⟩,kg,u,v,rfl⟩
   rw [lx,List.take_of_length_le (Nat.le_refl _)] at hb
   have:=mv G kg
   exact t x pw' sd d ws ps G (fun b o e n=>kg b o (k3 _ _ (k2 b o e n)) n (aG (k2 b o e n) nd2)) (n2 _ nd2) (n2 _ nsd2) nsdd this.2 sh mm ll hb
end
end Ls
namespace Ls
open PySem L2 PySem.W
def BkOb (CB:Addr) (H:Hp) (b pw sh d:Addr) (sp ev le nn nt mo:Int):Prop:=∃dx,H b=some (.ins CB dx (bf pw sh d sp ev le nn nt mo))
def yI (CB:Addr):Sp:=fun vs H Q _=>∃(b pw sh d:Addr) (sp ev le nn nt mo:Int),vs=[.ref b]∧BkOb CB H b pw sh d sp ev le nn nt mo∧Q (.int mo) H
def uC (CB:Addr):Sp:=fun vs H Q _=>∃(b pw sh d:Addr) (sp ev le nn nt mo:Int),vs=[.ref b]∧BkOb CB H b pw sh d sp ev le nn nt mo∧∀r,H r=none→Q (.ref r) (upd H r (.tup [.ref pw,.int sp,.int ev,.int le]))
def oA (CB CS:Addr) (sp':Sp):Sp:=fun vs H Q E=>∃(b pw sh d pw' d':Addr) (sp ev le nn nt mo:Int) (ws:Lm.Ps) (kvs:List (Key × V)),vs=[.ref b]∧BkOb CB H b pw sh d sp ev le nn nt mo∧cR CS H sh pw' d' ws kvs∧sp' [.ref sh] H Q E
def oT (CB:Addr):Sp:=fun vs H Q _=>∃(b pw sh d:Addr) (sp ev le nn nt mo i:Int),vs=[.ref b,.int i]∧BkOb CB H b pw sh d sp ev le nn nt mo∧mo≤i∧Q .non H
section
variable {P:Program} {w:World} {K:PySem.W.Frag} {mg:Str→Option Value} {base:Heap}
theorem scNow:aR ["self"] ["self"] (aH sM):=⟨rfl,rfl,rfl,by decide +kernel,rfl,by decide +kernel,by decide +kernel⟩
theorem ok_now {f CB:Addr} {fd:FuncData} (F:Fun K "moment_now" "Book.moment_now" sM f fd) (TB:Bl K mg CB):aK P w K mg base CX0 1 f fd ["self"] (yI CB):=by
 refine F.ok scNow (fun vs H Q E h=>?_) (fun cdv A outer s H vs Q E hr h=>?_)
 ·obtain⟨b,pw,sh,d,sp,ev,le,nn,nt,mo,rfl,_⟩:=h
  rfl
 ·obtain⟨b,pw,sh,d,sp,ev,le,nn,nt,mo,rfl,⟨dx,hb⟩,t⟩:=h
  exact⟨_,aJ (bQ (aU (pv 0) rfl)),_,rfl,b,CB,dx,_,_,rfl,hb,TB.cl,TB.nM,rfl,t⟩
theorem scBnds:aR ["self"] ["self"] (aH iB):=⟨rfl,rfl,rfl,by decide +kernel,rfl,by decide +kernel,by decide +kernel⟩
theorem ok_bnds {f CB:Addr} {fd:FuncData} (F:Fun K "bounds" "Book.bounds" iB f fd) (TB:Bl K mg CB):aK P w K mg base CX0 1 f fd ["self"] (uC CB):=by
 refine F.ok scBnds (fun vs H Q E h=>?_) (fun cdv A outer s H vs Q E hr h=>?_)
 ·obtain⟨b,pw,sh,d,sp,ev,le,nn,nt,mo,rfl,_⟩:=h
  rfl
 ·obtain⟨b,pw,sh,d,sp,ev,le,nn,nt,mo,rfl,⟨dx,hb⟩,t⟩:=h
  refine⟨_,aJ (bQ (cF (aA (aU (pv 0) rfl) (aA (aU (pv 0) rfl) (aA (aU (pv 0) rfl) (aA (aU (pv 0) rfl) aE)))))),?_⟩
  exact⟨_,rfl,b,CB,dx,_,_,rfl,hb,TB.cl,TB.nW,rfl,_,rfl,b,CB,dx,_,_,rfl,hb,TB.cl,TB.nS,rfl,_,rfl,b,CB,dx,_,_,rfl,hb,TB.cl,TB.nE,rfl,_,rfl,b,CB,dx,_,_,rfl,hb,TB.cl,TB.nL,rfl,by show 4≤sizeLine;decide,t⟩
theorem scKAll:aR ["self"] ["self"] (aH sN):=⟨rfl,rfl,rfl,by decide +kernel,rfl,by decide +kernel,by decide +kernel⟩
theorem ok_kall {f CB CS fA:Addr} {fd fdA:FuncData} {sp':Sp} {k:Nat} (F:Fun K "all_results" "Book.all_results" sN f fd) (TB:Bl K mg CB) (TS:Cl K mg CS) (GA:aK P w K mg base CX0 k fA fdA ["self"] (fun vs H Q _=>sp' vs H Q E0)) (bA:aP K fdA ["self"] []) (mA:cJ K CS "all_results" fA):
  aK P w K mg base CX0 (k+1) f fd ["self"] (oA CB CS fun vs H Q _=>sp' vs H Q E0):=by
 refine F.ok scKAll (fun vs H Q E h=>?_) (fun cdv A outer s H vs Q E hr h=>?_)
 ·obtain⟨b,pw,sh,d,pw',d',sp,ev,le,nn,nt,mo,ws,kvs,rfl,_⟩:=h
  rfl
 ·obtain⟨b,pw,sh,d,pw',d',sp,ev,le,nn,nt,mo,ws,kvs,rfl,⟨dx,hb⟩,hs,t⟩:=h
  obtain⟨dz,hz⟩:=hs.ob
  refine⟨_,aJ (bQ (cN (aU (pv 0) rfl) TS.cl mA GA hr bA .nil aY)),?_⟩
  exact⟨_,rfl,b,CB,dx,_,_,rfl,hb,TB.cl,TB.nH,rfl,sh,dz,_,rfl,hz,gO _ _ (by decide +kernel) (by decide +kernel),t⟩
theorem scKLeft:aR ["self"] ["self"] (aH mU):=⟨rfl,rfl,rfl,by decide +kernel,rfl,by decide +kernel,by decide +kernel⟩
theorem AdE {f CB CS fA:Addr} {fd fdA:FuncData} {sp':Sp} {k:Nat} (F:Fun K "left_work" "Book.left_work" mU f fd) (TB:Bl K mg CB) (TS:Cl K mg CS) (GA:aK P w K mg base CX0 k fA fdA ["self"] (fun vs H Q _=>sp' vs H Q E0)) (bA:aP K fdA ["self"] []) (mA:cJ K CS "left_work" fA):
  aK P w K mg base CX0 (k+1) f fd ["self"] (oA CB CS fun vs H Q _=>sp' vs H Q E0):=by
 refine F.ok scKLeft (fun vs H Q E h=>?_) (fun cdv A outer s H vs Q E hr h=>?_)
 ·obtain⟨b,pw,sh,d,pw',d',sp,ev,le,nn,nt,mo,ws,kvs,rfl,_⟩:=h
  rfl
 ·obtain⟨b,pw,sh,d,pw',d',sp,ev,le,nn,nt,mo,ws,kvs,rfl,⟨dx,hb⟩,hs,t⟩:=h
  obtain⟨dz,hz⟩:=hs.ob
  refine⟨_,aJ (bQ (cN (aU (pv 0) rfl) TS.cl mA GA hr bA .nil aY)),?_⟩
  exact⟨_,rfl,b,CB,dx,_,_,rfl,hb,TB.cl,TB.nH,rfl,sh,dz,_,rfl,hz,gO _ _ (by decide +kernel) (by decide +kernel),t⟩
theorem scMom:aR ["self","moment"] ["self","moment"] (aH iA):=⟨rfl,rfl,rfl,by decide +kernel,rfl,by decide +kernel,by decide +kernel⟩
theorem AdC {f CB fW:Addr} {fd fdW:FuncData} (F:Fun K "check_moment" "Book.check_moment" iA f fd) (TB:Bl K mg CB) (GW:aK P w K mg base CX0 1 fW fdW ["thing"] dW) (kW:keepIn K (.ref fW)=true) (bW:aP K fdW ["thing"] []) (mW:mg "is_whole"=some (.ref fW)):aK P w K mg base CX0 2 f fd ["self","moment"] (oT CB):=by
 refine F.ok scMom (fun vs H Q E h=>?_) (fun cdv A outer s H vs Q E hr h=>?_)
 ·obtain⟨b,pw,sh,d,sp,ev,le,nn,nt,mo,i,rfl,_⟩:=h
  rfl
 ·obtain⟨b,pw,sh,d,sp,ev,le,nn,nt,mo,i,rfl,⟨dx,hb⟩,hi,t⟩:=h
  refine⟨_,aJ (cK (PW.pt (gK (cY (cX (bJ GW hr rfl mW kW bW .nil aY (aA (pv 1) aE)))) (eV (bZ eU (pv 1) (aU (pv 0) rfl) (cA _))))) cC aZ),?_⟩
  refine⟨_,rfl,_,rfl,.kn (.int i),_,rfl,dS ?_⟩
  refine⟨_,rfl,_,rfl,b,CB,dx,_,_,rfl,hb,TB.cl,TB.nM,rfl,_,_,rfl,rfl,_,rfl,?_⟩
  exact dU (fun hc=>absurd hc (by simp;omega)) fun _=>t
end
end Ls
namespace Ls
open PySem L2 PySem.W
theorem rY {H H1:Hp} {a:Addr} {o:Obj} {u:HO} (e:H a=some u) (s:aL (upd H a (.frz o u)) H1):aL H (upd H1 a u):=fun b v h=>by
 by_cases z:b=a
 ·subst z
  rw [e] at h
  cases h
  exact aB
 ·rw [aC z]
  exact s b v (by rw [aC z];exact h)
theorem AdZ {H:Hp} {a b:Addr} {u o:HO} (e:H a=some u) (n:(upd H a o) b=none):H b=none∧b≠a:=by
 have nb:b≠a:=fun z=>by
  rw [z,aB] at n
  cases n
 rw [aC nb] at n
 exact⟨n,nb⟩
def Pc.free (c:Pc):Bool:=c.o.isNone && !decide (c.m=c.h)
def jE (CB CP T:Addr):Sp:=fun vs H Q _=>∃(b pw sh d:Addr) (sp ev le nn nt mo i:Int) (ps:List Addr) (cs:List Pc),vs=[.ref b,.int i]∧iO CB CP H b pw sh d sp ev le nn nt mo ps cs∧cs.length≤1000∧mo≤i∧Tab H T rQ jA∧(∃c ∈ cs,c.free=true) ∧
 ∀(c:Pc) (r:Addr) (H':Hp),c ∈ cs→c.free=true→(∀c' ∈ cs,c'.free=true→¬ ltP c'.k c.k)→dY T H H'→Tab H' T rQ jA→H' r=some (.tup [.str "piece",.int c.n])→Q (.ref r) H'
section
variable {P:Program} {w:World} {K:PySem.W.Frag} {mg:Str→Option Value} {base:Heap}
theorem vG:aR ["self","moment","piece","free","lent","late"] ["self","moment"] (aH gB):=⟨rfl,rfl,rfl,by decide +kernel,rfl,by decide +kernel,by decide +kernel⟩
theorem xO {f CB CP T fM fF fG:Addr} {fd fdM fdF fdG:FuncData} (F:Fun K "choice" "Book.choice" gB f fd) (TB:Bl K mg CB) (TP:Pl K mg CP)
  (GM:aK P w K mg base CX0 2 fM fdM ["self","moment"] (oT CB)) (bM:aP K fdM ["self","moment"] []) (mM:cJ K CB "check_moment" fM)
  (GF:aK P w K mg base CX0 2 fF fdF ["self"] (xA CP)) (bF:aP K fdF ["self"] []) (mF:cJ K CP "is_free" fF)
  (GG:aK P w K mg base CX0 4 fG fdG ["pieces"] (uA CP T)) (kG:keepIn K (.ref fG)=true) (bG:aP K fdG ["pieces"] []) (mG:mg "greatest"=some (.ref fG)):
  aK P w K mg base CX0 5 f fd ["self","moment"] (jE CB CP T):=by
 refine F.ok vG (fun vs H Q E h=>?_) (fun cdv A outer s H vs Q E hr h=>?_)
 ·obtain⟨b,pw,sh,d,sp,ev,le,nn,nt,mo,i,ps,cs,rfl,_⟩:=h
  rfl
 ·obtain⟨b,pw,sh,d,sp,ev,le,nn,nt,mo,i₀,ps,cs,rfl,hb,lc,hi₀,tb,ex,t⟩:=h
  have hr2:Room 2 (A.deeper (PyProof.Rows.envOfC "Book.choice" (aH gB) s.heap.objs.size f cdv)):=hr.mono (by decide)
  refine⟨_,aF (cU (dQ (pv 0) TB.cl mM GM hr2 bM .nil aY (aA (pv 1) aE)))
   (aF (ps_thaw (yR (ix:=3) vG.nd rfl (Or.inl rfl) (NB:=["piece"]) (n:=1) (js:=[]) (g:=dX 0) (cl:=[]) rfl (by decide +kernel) (by decide +kernel) rfl
     (iJ.of rfl cO (aN (fun z=>nomatch z) (aN (fun z=>nomatch z) cO)) rfl (fun k j h=>absurd h (by simp)) cO)
     (yU (uK (aU (pv 0) rfl))) (fun C s H fp pn=>bX (i:=0) ndPc rfl (Or.inl rfl) (.inr rfl)) (fun C s H fp pn=>pts_one (cX (cN (pv 0) TP.cl mF GF hr2 bF .nil aY))) (fun C s H fp pn=>pv 0)))
   (aF (cK (qD (pv 3) (fun _=>rfl)) (aJ (bQ (cF (aA eY (aA (aU (bJ GG hr rfl mG kG bG .nil aY (aA (pv 3) aE)) rfl) aE))))) aZ) cC)),?_⟩
  have sl:sizeLine=16777216:=sizeLine_eq
  obtain⟨⟨dx,hbo⟩,hdc,hpc⟩:=id hb
  have nf:∀(o:Obj) (v:HO),H d≠some (.frz o v):=fun o v z=>by rw [hdc] at z;cases z
  have lp:ps.length=cs.length:=hpc.length
  refine⟨_,rfl,b,dx,_,rfl,hbo,rfl,_,rfl,b,pw,sh,d,sp,ev,le,nn,nt,mo,i₀,rfl,⟨dx,hbo⟩,hi₀,?_⟩
  refine⟨_,rfl,b,CB,dx,_,_,rfl,hbo,TB.cl,TB.nB,rfl,.inr (.inr (.inl ⟨rfl,.inl ⟨_,hdc⟩⟩)),d,_,rfl,rfl,hdc,fun v nv=>?_⟩
  have s1:aL H (upd H v (fO v d)):=aI nv
  have e1:(upd H v (fO v d)) v=some (fO v d):=aB
  generalize upd H v (fO v d)=H1 at s1 e1 ⊢
  have hd1:=s1 _ _ hdc
  refine⟨v,d,dkv ps cs,rfl,e1,hd1,fun o la hla=>?_⟩
  obtain⟨hla1,nla⟩:=AdZ hd1 hla
  have hp1:=eF (aL.toT s1) hpc
  have bs:∀G,aL (upd H1 d (.frz o (.dK (dkv ps cs)))) G→∀a u,H1 a=some u→a≠d→G a=some u:=fun G sg a u e n=>sg _ _ (by rw [aC n];exact e)
  refine⟨fun i m ys G=>m=cs.length-i∧i≤cs.length∧ys=(((cs.zip ps).take i).filter fun x=>x.1.free).map (fun x=>V.ref x.2)∧aL (upd H1 d (.frz o (.dK (dkv ps cs)))) G∧G la=some (.lst ys),⟨_,rfl,Nat.zero_le _,rfl,aI hla,aB⟩,?_⟩
  rintro i m ys G ⟨rfl,hi,rfl,sg,hA⟩
  refine⟨hA,?_⟩
  have fz:G d=some (.frz o (.dK (dkv ps cs))):=sg _ _ aB
  by_cases hlt:i<cs.length
  ·refine .inr ⟨⟨fz,by rw [lL hpc];exact hlt⟩,?_⟩
   rintro y H'' ⟨rfl,e,he,rfl⟩
   obtain⟨c,p,hc,hp,rfl⟩:=uQ he
   obtain⟨c',hc',lv,⟨dp,hat⟩,hld⟩:=bO hp1 hp
   rw [hc] at hc'
   cases hc'
   have hatG:=bs _ sg _ _ hat (aW hat hd1 (by intro z;cases z))
   have hz:(cs.zip ps)[i]?=some (c,p):=List.getElem?_zip_eq_some.mpr ⟨hc,hp⟩
   have tk:(cs.zip ps).take (i+1)=(cs.zip ps).take i++[(c,p)]:=by rw [List.take_add_one,hz];rfl
   have lf:((((cs.zip ps).take i).filter fun x=>x.1.free).map (fun x=>V.ref x.2)).length≤i:=by
    rw [List.length_map]
    exact Nat.le_trans (List.length_filter_le _ _) (by rw [List.length_take];omega)
   refine dD ⟨rfl,?_⟩
   refine⟨_,rfl,p,dp,_,rfl,hatG,rfl,p,_,_,_,_,lv,rfl,⟨dp,hatG⟩,_,rfl,?_⟩
   have ef:(decide (lv=.non) && !decide (c.m=c.h))=c.free:=by rw [hld.non];rfl
   rw [ef]
   refine dU (fun hf=>?_) (fun hf=>?_)
   ·refine⟨_,rfl,hA,by omega,_,?_,rfl,hlt,?_,fun b o z=>?_,aB⟩
    ·omega
    ·rw [tk,List.filter_append,List.map_append]
     simp [hf]
    ·rw [aC (aG z hla)]
     exact sg _ _ z
   ·refine⟨cs.length-(i+1),by omega,rfl,hlt,?_,sg,hA⟩
    rw [tk,List.filter_append,List.map_append]
    simp [hf]
  refine .inl ⟨⟨fz,by rw [lL hpc];omega⟩,?_⟩
  have ei:(cs.zip ps).take i=cs.zip ps:=List.take_of_length_le (by rw [List.length_zip];omega)
  rw [ei] at hA
  refine⟨d,o,_,fz,nf,?_⟩
  have s2:aL H1 (upd G d (.dK (dkv ps cs))):=rY hd1 sg
  have e2:(upd G d (.dK (dkv ps cs))) la=some (.lst ((((cs.zip ps).filter fun x=>x.1.free).map (·.2)).map V.ref)):=by
   rw [aC nla,hA,List.map_map]
   rfl
  generalize upd G d (.dK (dkv ps cs))=H2 at s2 e2 ⊢
  have t2:=s1.trans s2
  have pr:Paired (gG CP H2) (((cs.zip ps).filter fun x=>x.1.free).map (·.2)) (((cs.zip ps).filter fun x=>x.1.free).map (·.1)):=nF fun z hz=>(kK (eF (aL.toT t2) hpc) z (List.mem_filter.mp hz).1)
  have mem:∀c,c ∈ cs→c.free=true→∃p,(c,p) ∈ (cs.zip ps).filter fun x=>x.1.free:=fun c hc hf=>by
   obtain⟨k,hk⟩:=List.mem_iff_getElem?.mp hc
   have kl:k<ps.length:=by have:=(List.getElem?_eq_some_iff.mp hk).1;omega
   refine⟨ps[k],List.mem_filter.mpr ⟨List.mem_of_getElem? (i:=k) (List.getElem?_zip_eq_some.mpr ⟨hk,List.getElem?_eq_getElem kl⟩),hf⟩⟩
  have ne:((cs.zip ps).filter fun x=>x.1.free).map (·.2)≠[]:=fun z=>by
   obtain⟨c,hc,hf⟩:=ex
   obtain⟨p,hp⟩:=mem c hc hf
   rw [List.map_eq_nil_iff.mp z] at hp
   cases hp
  refine⟨_,rfl,true,?_,eL ?_⟩
  ·refine .inl ⟨_,SqL.of e2,?_⟩
   cases z:((cs.zip ps).filter fun x=>x.1.free).map (·.2) with
   | nil=>exact absurd z ne
   | cons a l=>rfl
  refine⟨_,rfl,la,_,_,rfl,e2,pr,ne,tb.same t2,fun j p c H3 kt tb3 hp hc best=>?_⟩
  obtain⟨c',hc',lv,⟨dp,hat⟩,_⟩:=bO pr hp
  rw [hc] at hc'
  cases hc'
  have hat3:H3 p=some (.ins CP dp (pf c.n c.l c.h c.m lv)):=by
   obtain⟨rs,hr',_⟩:=tb.same t2
   exact kt _ _ (aW hat hr' (by intro z;cases z)) hat
  refine⟨p,CP,dp,_,_,rfl,hat3,TP.cl,TP.nN,rfl,by show 2≤sizeLine;decide,fun r nr=>?_⟩
  obtain⟨z,hz,rfl⟩:=List.mem_map.mp (List.mem_of_getElem? hc)
  obtain⟨hz1,hz2⟩:=List.mem_filter.mp hz
  refine t z.1 r _ (List.of_mem_zip hz1).1 hz2 (fun c' hc' hf'=>?_) ((dY.pre t2 kt).same (aI nr)) (tb3.same (aI nr)) aB
  obtain⟨p',hp'⟩:=mem c' hc' hf'
  obtain⟨k,hk⟩:=List.mem_iff_getElem?.mp (List.mem_map_of_mem (f:=(·.1)) hp')
  exact(best k c' hk).1
end
end Ls
namespace Ls
open PySem L2 PySem.W
def pG (x:Str):Prop:=1≤x.length∧x.length≤8∧x.cps.all (·<128)=true∧∀(i:Nat) c,x.cps[i]?=some c→(!decide ((⟨#[c]⟩:Str).cps.toList<("a":Str).cps.toList))=true∧(!decide (("z":Str).cps.toList<(⟨#[c]⟩:Str).cps.toList))=true
def jX:Sp:=fun vs H Q _=>∃x,vs=[.str x]∧pG x∧∀H',aL H H'→Q (.bl true) H'
def jY:Sp:=fun vs H Q _=>∃x,vs=[.str x]∧pG x∧∀H',aL H H'→Q .non H'
theorem ndSign:(["sign"]:List Str).Nodup:=by decide +kernel
theorem AeN:bootBuiltins "str"=some (.type "str"):=by decide +kernel
theorem nP {b:Bool} {A B:Prop} (h:b=true) (x:A):if b=true then A else B:=by rw [if_pos h];exact x
theorem gW {b:Bool} {A B:Prop} (h:b=false) (x:B):if b=true then A else B:=by rw [if_neg (by rw [h];simp)];exact x
section
variable {P:Program} {w:World} {K:PySem.W.Frag} {mg:Str→Option Value} {base:Heap}
theorem AcC:aR ["thing"] ["thing"] (aH jF):=⟨rfl,rfl,rfl,by decide +kernel,rfl,by decide +kernel,by decide +kernel⟩
theorem vS {f:Addr} {fd:FuncData} (F:Fun K "is_worker" "is_worker" jF f fd) (G:Gb mg) (hs:mg "str"=none):aK P w K mg base CX0 1 f fd ["thing"] jX:=by
 refine F.ok AcC (fun vs H Q E h=>?_) (fun cdv A outer s H vs Q E hr h=>?_)
 ·obtain⟨x,rfl,_⟩:=h
  rfl
 ·obtain⟨x,rfl,⟨w1,w2,w3,w4⟩,t⟩:=h
  refine⟨_,aF (cK (PW.pt (gK (cY (cX (aV cL (by rfl) G.isi dM (aA (pv 0) (aA (gM (v:=.ty "str") (by rfl) hs AeN rfl) aE))))) (eV (cY (qE lH lH aD (aV uT (by rfl) G.len PySem.boot_len (aA (pv 0) aE)) aD))))) (aJ (bQ gN)) aZ)
   (aJ (bQ (aV (lN rfl) (by rfl) G.all lO (aA (gL (NB:=["sign"]) (g:=dX 0) rfl (by decide +kernel) (by decide +kernel) (by decide +kernel) rfl
     (pi_str (pv 0)) (fun C s H fp pn=>bX (i:=0) ndSign rfl (Or.inl rfl) (.inr rfl)) (fun C s H fp pn=>eE) (fun C s H fp pn=>AcV sU sU eY (pv 0) eY)) aE)))),?_⟩
  have sl:sizeLine=16777216:=sizeLine_eq
  refine⟨_,rfl,_,_,_,true,rfl,.ty "str",.inl ⟨_,.str x,rfl⟩,_,rfl,?_⟩
  refine dS ?_
  refine⟨_,rfl,_,rfl,by omega,_,_,rfl,rfl,_,rfl,nP (decide_eq_true (by omega)) ⟨_,_,rfl,rfl,_,rfl,gW (by rw [decide_eq_true (by omega)];rfl) ?_⟩⟩
  refine⟨_,rfl,_,rfl,w3,fun acc hacc=>?_⟩
  refine⟨fun j m' ys H'=>m'=x.length-j∧j≤x.length∧ys=(List.replicate j true).map V.bl∧aL H H'∧H' acc=some (.lst ys),⟨_,rfl,Nat.zero_le _,rfl,aI hacc,aB⟩,?_⟩
  rintro j m' ys H' ⟨rfl,hj,rfl,sm,hA⟩
  refine⟨hA,?_⟩
  by_cases hlt:j<x.length
  ·refine .inr ⟨hlt,?_⟩
   rintro y H'' ⟨rfl,c,hc,rfl⟩
   obtain⟨z1,z2⟩:=w4 j c hc
   refine dD ?_
   refine eB ?_
   refine eL ?_
   refine⟨_,rfl,_,_,rfl,rfl,_,rfl,nP z1 ⟨_,_,rfl,rfl,hA,by rw [List.length_map,List.length_replicate];omega,_,?_,rfl,hlt,?_,fun b o z=>?_,aB⟩⟩
   ·omega
   ·rw [List.replicate_succ',List.map_append,z2]
    rfl
   ·rw [aC (aG z hacc)]
    exact sm _ _ z
  ·refine .inl ⟨by show _≤j;omega,?_⟩
   refine⟨acc,_,rfl,SqL.of hA,?_⟩
   have ea:(List.replicate j true).all id=true:=by simp
   rw [ea]
   exact t _ sm
theorem AcF:aR ["worker"] ["worker"] (aH eC):=⟨rfl,rfl,rfl,by decide +kernel,rfl,by decide +kernel,by decide +kernel⟩
theorem vW {f fW:Addr} {fd fdW:FuncData} (F:Fun K "check_worker" "check_worker" eC f fd) (GW:aK P w K mg base CX0 1 fW fdW ["thing"] jX) (kW:keepIn K (.ref fW)=true) (bW:aP K fdW ["thing"] []) (mW:mg "is_worker"=some (.ref fW)):aK P w K mg base CX0 2 f fd ["worker"] jY:=by
 refine F.ok AcF (fun vs H Q E h=>?_) (fun cdv A outer s H vs Q E hr h=>?_)
 ·obtain⟨x,rfl,_⟩:=h
  rfl
 ·obtain⟨x,rfl,wx,t⟩:=h
  refine⟨_,aJ (cK (cY (cX (bJ GW hr rfl mW kW bW .nil aY (aA (pv 0) aE)))) cC aZ),?_⟩
  exact⟨_,rfl,x,rfl,wx,fun H' sm=>⟨_,rfl,dS (t H' sm)⟩⟩
def wU (CB CP:Addr):Sp:=fun vs H Q _=>∃(b pw sh d:Addr) (sp ev le nn nt mo:Int) (ps:List Addr) (cs:List Pc) (i:Nat) (p:Addr) (c:Pc),vs=[.ref b,.int c.n]∧iO CB CP H b pw sh d sp ev le nn nt mo ps cs∧ps[i]?=some p∧cs[i]?=some c∧(cs.map Pc.n).Nodup∧Q (.ref p) H
theorem zK:∀{ps:List Addr} {cs:List Pc} {i:Nat} {p:Addr} {c:Pc},ps[i]?=some p→cs[i]?=some c→(cs.map Pc.n).Nodup→eM (dkv ps cs) (Sum.inl c.n:Key)=some (.ref p)
 | [],_,_,_,_,h,_,_=>by simp at h
 | _::_,[],_,_,_,_,h,_=>by simp at h
 | p::ps,c::cs,0,_,_,h1,h2,_=>by
  cases h1
  cases h2
  exact kP rfl
 | q::ps,e::cs,i+1,p,c,h1,h2,nd=>by
  obtain⟨n1,n2⟩:=List.nodup_cons.mp nd
  have hm:c.n ∈ cs.map Pc.n:=List.mem_map_of_mem (List.mem_of_getElem? (by simpa using h2))
  show eM ((Sum.inl e.n,V.ref q)::dkv ps cs) _=_
  rw [kQ (fun z=>n1 (by have z:e.n=c.n:=Sum.inl.inj z;rw [z];exact hm))]
  exact zK (by simpa using h1) (by simpa using h2) n2
theorem scWith:aR ["self","number"] ["self","number"] (aH kF):=⟨rfl,rfl,rfl,by decide +kernel,rfl,by decide +kernel,by decide +kernel⟩
theorem ok_with {f CB CP fW:Addr} {fd fdW:FuncData} (F:Fun K "piece_with" "Book.piece_with" kF f fd) (TB:Bl K mg CB) (GW:aK P w K mg base CX0 1 fW fdW ["thing"] dW) (kW:keepIn K (.ref fW)=true) (bW:aP K fdW ["thing"] []) (mW:mg "is_whole"=some (.ref fW)):aK P w K mg base CX0 2 f fd ["self","number"] (wU CB CP):=by
 refine F.ok scWith (fun vs H Q E h=>?_) (fun cdv A outer s H vs Q E hr h=>?_)
 ·obtain⟨b,pw,sh,d,sp,ev,le,nn,nt,mo,ps,cs,i,p,c,rfl,_⟩:=h
  rfl
 ·obtain⟨b,pw,sh,d,sp,ev,le,nn,nt,mo,ps,cs,i,p,c,rfl,hb,hp,hc,nd,t⟩:=h
  have hu:(A.deeper (PyProof.Rows.envOfC "Book.piece_with" (aH kF) s.heap.objs.size f cdv)).units+1<cLine:=by have:=hr.un;omega
  obtain⟨⟨dx,hbo⟩,hdc,hpc⟩:=id hb
  refine⟨_,aF (cK (PW.pt (gK (cY (cX (bJ GW hr rfl mW kW bW .nil aY (aA (pv 1) aE)))) (eV (AcL (AaK hu (pv 1) (aU (pv 0) rfl)))))) cC aZ) (aJ (bQ (yX hu (aU (pv 0) rfl) (pv 1) (fun _ _=>rfl)))),?_⟩
  have dg:=jU.k (k:=(Sum.inl c.n:Key)) hdc
  rw [zK hp hc nd] at dg
  refine⟨_,rfl,_,rfl,.kn (.int _),_,rfl,dS ?_⟩
  refine⟨_,rfl,_,rfl,b,CB,dx,_,_,rfl,hbo,TB.cl,TB.nB,rfl,d,_,rfl,dg,_,rfl,dS ?_⟩
  exact⟨_,rfl,b,CB,dx,_,_,rfl,hbo,TB.cl,TB.nB,rfl,_,rfl,d,_,rfl,dg,t⟩
end
end Ls
namespace Ls
open PySem L2 PySem.W
theorem AeR {pw sh d:Addr} {sp ev le nn nt mo nt':Int}:dC "next_token" (.int nt') (bf pw sh d sp ev le nn nt mo)=bf pw sh d sp ev le nn nt' mo:=rfl
theorem tN {pw sh d:Addr} {sp ev le nn nt mo mo':Int}:dC "moment" (.int mo') (bf pw sh d sp ev le nn nt mo)=bf pw sh d sp ev le nn nt mo':=rfl
theorem pc_one {C:Addr} {H:Hp} {p:Addr} {c e:Pc} (h1:gG C H p c) (h2:gG C H p e):c.n=e.n:=by
 obtain⟨lv,⟨dx,a⟩,_⟩:=h1
 obtain⟨lv',⟨dx',b⟩,_⟩:=h2
 rw [a] at b
 have:=Option.some.inj b
 injection this with _ _ z
 injection z with z _
 injection z with _ z
 injection z
theorem qJ {C:Addr} {H H':Hp} {ps:List Addr} {cs:List Pc} {k:Nat} {p:Addr} {c c':Pc} (h:Paired (gG C H) ps cs) (nd:(cs.map Pc.n).Nodup) (hk:ps[k]?=some p) (hc:cs[k]?=some c) (mv:∀q e,q≠p→gG C H q e→gG C H' q e) (new:gG C H' p c'):Paired (gG C H') ps (cs.set k c'):=by
 refine gT (by rw [List.length_set];exact h.length) fun j q e hq he=>?_
 rw [List.getElem?_set] at he
 by_cases z:k=j
 ·subst z
  rw [if_pos rfl] at he
  rw [hk] at hq
  cases hq
  split at he
  ·cases he
   exact new
  ·cases he
 ·rw [if_neg z] at he
  obtain⟨e',he',x⟩:=bO h hq
  rw [he] at he'
  cases he'
  refine mv q e (fun y=>z ?_) x
  subst y
  obtain⟨c'',hc'',x'⟩:=bO h hk
  rw [hc] at hc''
  cases hc''
  have en:=pc_one x' x
  have h1:(cs.map Pc.n)[k]?=some c.n:=by rw [List.getElem?_map,hc];rfl
  have h2:(cs.map Pc.n)[j]?=some c.n:=by rw [List.getElem?_map,he,en];rfl
  obtain⟨l1,g1⟩:=List.getElem?_eq_some_iff.mp h1
  obtain⟨l2,g2⟩:=List.getElem?_eq_some_iff.mp h2
  exact(List.getElem_inj nd).mp (g1.trans g2.symm)
theorem zL {ps:List Addr} {cs:List Pc} {k:Nat} {c c':Pc} (hc:cs[k]?=some c) (en:c'.n=c.n):dkv ps (cs.set k c')=dkv ps cs:=by
 unfold dkv
 refine List.ext_getElem? fun j=>?_
 rw [List.getElem?_map,List.getElem?_map]
 by_cases z:k=j
 ·subst z
  have hl:=(List.getElem?_eq_some_iff.mp hc).1
  cases hp:ps[k]? with
  | none=>
   have e1:((cs.set k c').zip ps)[k]?=none:=List.getElem?_eq_none (by rw [List.length_zip];have:=List.getElem?_eq_none_iff.mp hp;omega)
   have e2:(cs.zip ps)[k]?=none:=List.getElem?_eq_none (by rw [List.length_zip];have:=List.getElem?_eq_none_iff.mp hp;omega)
   rw [e1,e2]
  | some p=>
   have e1:((cs.set k c').zip ps)[k]?=some (c',p):=List.getElem?_zip_eq_some.mpr ⟨by rw [List.getElem?_set,if_pos rfl,if_pos hl],hp⟩
   have e2:(cs.zip ps)[k]?=some (c,p):=List.getElem?_zip_eq_some.mpr ⟨hc,hp⟩
   rw [e1,e2]
   show some ((Sum.inl c'.n:Key),V.ref p)=some (Sum.inl c.n,V.ref p)
   rw [en]
 ·have e:((cs.set k c').zip ps)[j]?=(cs.zip ps)[j]?:=by
   have h1:(cs.set k c')[j]?=cs[j]?:=by rw [List.getElem?_set,if_neg z]
   cases q:(cs.zip ps)[j]? with
   | none=>
    have:=List.getElem?_eq_none_iff.mp q
    exact List.getElem?_eq_none (by rw [List.length_zip,List.length_set] at *;exact this)
   | some x=>
    obtain⟨a,b⟩:=List.getElem?_zip_eq_some.mp q
    exact List.getElem?_zip_eq_some.mpr ⟨h1.trans a,b⟩
  rw [e]
def tX (CB CP T:Addr):Sp:=fun vs H Q _=>∃(b pw sh d:Addr) (sp ev le nn nt mo i:Int) (x:Str) (ps:List Addr) (cs:List Pc),vs=[.ref b,.str x,.int i]∧iO CB CP H b pw sh d sp ev le nn nt mo ps cs∧cs.length≤1000∧(cs.map Pc.n).Nodup∧pG x∧mo≤i∧Tab H T rQ jA∧(∃c ∈ cs,c.free=true) ∧
 ∀(k:Nat) (p:Addr) (c:Pc) (r:Addr) (H':Hp),ps[k]?=some p→cs[k]?=some c→c.free=true→(∀c' ∈ cs,c'.free=true→¬ ltP c'.k c.k)→(∀a o,H a=some o→a≠b→a≠p→a≠T→H' a=some o)→Tab H' T rQ jA →
  iO CB CP H' b pw sh d sp ev le nn (nt+1) i ps (cs.set k { c with o:=some (nt,x,i+sp) })→H' r=some (.tup [.int nt,.int c.n,.int c.m,.int c.h,.int (i+sp)])→Q (.ref r) H'
section
variable {P:Program} {w:World} {K:PySem.W.Frag} {mg:Str→Option Value} {base:Heap}
theorem pZ:aR ["self","worker","moment","chosen","piece","token","until"] ["self","worker","moment"] (aH mQ):=⟨rfl,rfl,rfl,by decide +kernel,rfl,by decide +kernel,by decide +kernel⟩
theorem AdD {f CB CP T fW fC fP:Addr} {fd fdW fdC fdP:FuncData} (F:Fun K "lend" "Book.lend" mQ f fd) (TB:Bl K mg CB) (TP:Pl K mg CP)
  (GW:aK P w K mg base CX0 5 fW fdW ["worker"] jY) (kW:keepIn K (.ref fW)=true) (bW:aP K fdW ["worker"] []) (mW:mg "check_worker"=some (.ref fW))
  (GC:aK P w K mg base CX0 5 fC fdC ["self","moment"] (jE CB CP T)) (bC:aP K fdC ["self","moment"] []) (mC:cJ K CB "choice" fC)
  (GP:aK P w K mg base CX0 5 fP fdP ["self","number"] (wU CB CP)) (bP:aP K fdP ["self","number"] []) (mP:cJ K CB "piece_with" fP):
  aK P w K mg base CX0 6 f fd ["self","worker","moment"] (tX CB CP T):=by
 refine F.ok pZ (fun vs H Q E h=>?_) (fun cdv A outer s H vs Q E hr h=>?_)
 ·obtain⟨b,pw,sh,d,sp,ev,le,nn,nt,mo,i,x,ps,cs,rfl,_⟩:=h
  rfl
 ·obtain⟨b,pw,sh,d,sp,ev,le,nn,nt,mo,i,x,ps,cs,rfl,hb,lc,nd,wx,hi,tb,ex,t⟩:=h
  refine⟨_,aF (cU (bJ GW hr rfl mW kW bW .nil aY (aA (pv 1) aE)))
   (aF (bU (i:=3) pZ.nd rfl (Or.inl rfl) (dQ (pv 0) TB.cl mC GC hr bC .nil aY (aA (pv 2) aE)))
   (aF (cK (bZ op_isN (pv 3) eZ (cA _)) (aJ (bQ eZ)) aZ)
   (aF (bU (i:=4) pZ.nd rfl (Or.inl rfl) (dQ (pv 0) TB.cl mP GP hr bP .nil aY (aA (aX cI (pv 3) aD (fun _ _=>rfl)) aE)))
   (aF (cK (bZ vQ (aX cI (pv 3) aD (fun _ _=>rfl)) eY (cA _)) cC aZ)
   (aF (bU (i:=5) pZ.nd rfl (Or.inl rfl) (aU (pv 0) rfl))
   (aF (bU (i:=6) pZ.nd rfl (Or.inl rfl) (aS cQ (pv 2) (aU (pv 0) rfl)))
   (aF (dF (pv 4) (cF (aA (pv 5) (aA (pv 1) (aA (pv 6) aE)))) rfl)
   (aF (dF (pv 0) (aS cQ (pv 5) aD) rfl)
   (aF (dF (pv 0) (pv 2) rfl)
   (aJ (bQ (cF (aA (pv 5) (aA (aU (pv 4) rfl) (aA (aU (pv 4) rfl) (aA (aU (pv 4) rfl) (aA (pv 6) aE))))))))))))))))),?_⟩
  have sl:sizeLine=16777216:=sizeLine_eq
  refine⟨_,rfl,x,rfl,wx,fun H1 s1=>?_⟩
  have hb1:=hb.sameT (aL.toT s1)
  obtain⟨dx,hbo1⟩:=hb1.ob
  refine⟨_,rfl,b,dx,_,rfl,hbo1,rfl,_,rfl,b,pw,sh,d,sp,ev,le,nn,nt,mo,i,ps,cs,rfl,hb1,lc,hi,tb.same s1,ex,fun c r0 H2 hc hf best kt tb2 e2=>?_⟩
  have st:cT H1 H2:=by
   obtain⟨qs,e,_⟩:=tb.same s1
   exact kt.toT e
  have hb2:=hb1.sameT st
  obtain⟨⟨dx2,hbo⟩,hdc,hpc⟩:=id hb2
  obtain⟨k,hk⟩:=List.mem_iff_getElem?.mp hc
  obtain⟨p,hpk⟩:∃p,ps[k]?=some p:=⟨_,List.getElem?_eq_getElem (by have:=hpc.length;have:=(List.getElem?_eq_some_iff.mp hk).1;omega)⟩
  obtain⟨c',hc',lv,⟨dp,hat⟩,hld⟩:=bO hpc hpk
  rw [hk] at hc'
  cases hc'
  refine⟨_,rfl,rfl,_,rfl,dS ?_⟩
  refine⟨_,rfl,b,dx2,_,rfl,hbo,rfl,_,rfl,r0,_,_,_,rfl,rfl,SqT.of e2,aM (j:=1) rfl,b,pw,sh,d,sp,ev,le,nn,nt,mo,ps,cs,k,p,c,rfl,hb2,hpk,hk,nd,?_⟩
  refine⟨_,rfl,r0,_,_,_,rfl,rfl,SqT.of e2,aM (j:=0) rfl,rfl,_,rfl,gW (by decide +kernel) ?_⟩
  refine⟨_,rfl,b,CB,dx2,_,_,rfl,hbo,TB.cl,TB.nT,rfl,?_⟩
  refine⟨_,rfl,_,rfl,b,CB,dx2,_,_,rfl,hbo,TB.cl,TB.nS,rfl,_,_,rfl,rfl,?_⟩
  refine⟨_,rfl,_,rfl,_,rfl,by show 3≤sizeLine;decide,fun q nq=>?_⟩
  have s3:aL H2 (upd H2 q (.tup [.int nt,.str x,.int (i+sp)])):=aI nq
  have e3:(upd H2 q (.tup [.int nt,.str x,.int (i+sp)])) q=some (.tup [.int nt,.str x,.int (i+sp)]):=aB
  generalize upd H2 q (.tup [.int nt,.str x,.int (i+sp)])=H3 at s3 e3 ⊢
  have hat3:=s3 _ _ hat
  have hbo3:=s3 _ _ hbo
  have npb:p≠b:=aW hat hbo (by intro z;injection z with _ _ z;injection z with z;injection z with z;exact absurd z (by decide +kernel))
  refine⟨_,rfl,p,CP,dp,_,rfl,hat3,TP.cl,TP.nD,(by show 5<1000;decide),?_⟩
  rw [uJ]
  refine⟨_,rfl,_,_,rfl,rfl,_,rfl,b,CB,dx2,_,rfl,(by rw [aC npb.symm];exact hbo3),TB.cl,TB.nT,(by show 9<1000;decide),?_⟩
  rw [AeR]
  refine⟨_,rfl,_,rfl,b,CB,dx2,_,rfl,aB,TB.cl,TB.nM,(by show 9<1000;decide),?_⟩
  rw [dP,tN]
  have k5:∀a o,H3 a=some o→a≠p→a≠b→(upd (upd H3 p (.ins CP dp (pf c.n c.l c.h c.m (.ref q)))) b (.ins CB dx2 (bf pw sh d sp ev le nn (nt+1) i))) a=some o:=fun a o e n1 n2=>by
   rw [aC n2,aC n1]
   exact e
  have p5:(upd (upd H3 p (.ins CP dp (pf c.n c.l c.h c.m (.ref q)))) b (.ins CB dx2 (bf pw sh d sp ev le nn (nt+1) i))) p=some (.ins CP dp (pf c.n c.l c.h c.m (.ref q))):=by rw [aC npb,aB]
  have b5:(upd (upd H3 p (.ins CP dp (pf c.n c.l c.h c.m (.ref q)))) b (.ins CB dx2 (bf pw sh d sp ev le nn (nt+1) i))) b=some (.ins CB dx2 (bf pw sh d sp ev le nn (nt+1) i)):=aB
  generalize upd (upd H3 p (.ins CP dp (pf c.n c.l c.h c.m (.ref q)))) b (.ins CB dx2 (bf pw sh d sp ev le nn (nt+1) i))=H5 at k5 p5 b5 ⊢
  refine⟨_,rfl,_,rfl,p,CP,dp,_,_,rfl,p5,TP.cl,TP.nN,rfl,_,rfl,p,CP,dp,_,_,rfl,p5,TP.cl,TP.nM,rfl,_,rfl,p,CP,dp,_,_,rfl,p5,TP.cl,TP.nH,rfl,_,rfl,by show 5≤sizeLine;decide,fun r nr=>?_⟩
  have s6:aL H5 (upd H5 r (.tup [.int nt,.int c.n,.int c.m,.int c.h,.int (i+sp)])):=aI nr
  have tp:∀a ys,H2 a=some (.tup ys)→(upd H5 r (.tup [.int nt,.int c.n,.int c.m,.int c.h,.int (i+sp)])) a=some (.tup ys):=fun a ys e=>s6 _ _ (k5 _ _ (s3 _ _ e) (aW e hat (by intro z;cases z)) (aW e hbo (by intro z;cases z)))
  have tq:(upd H5 r (.tup [.int nt,.int c.n,.int c.m,.int c.h,.int (i+sp)])) q=some (.tup [.int nt,.str x,.int (i+sp)]):=s6 _ _ (k5 _ _ e3 (aW e3 hat3 (by intro z;cases z)) (aW e3 hbo3 (by intro z;cases z)))
  refine t k p c r _ hpk hk hf best (fun a o e n1 n2 n3=>s6 _ _ (k5 _ _ (s3 _ _ (kt _ _ n3 (s1 _ _ e))) n2 n1)) ?_ ⟨⟨dx2,s6 _ _ b5⟩,?_,?_⟩ aB
  ·obtain⟨qs,g1,g2,g3⟩:=tb2
   refine⟨qs,s6 _ _ (k5 _ _ (s3 _ _ g1) (aW g1 hat (by intro z;cases z)) (aW g1 hbo (by intro z;cases z))),g2,?_⟩
   rcases g3 with g3|⟨c',g3,g4⟩
   ·exact .inl g3
   ·exact .inr ⟨c',g3,s6 _ _ (k5 _ _ (s3 _ _ g4) (aW g4 hat (by intro z;cases z)) (aW g4 hbo (by intro z;cases z)))⟩
  ·rw [zL (c':={ c with o:=some (nt,x,i+sp) }) hk rfl]
   exact s6 _ _ (k5 _ _ (s3 _ _ hdc) (aW hdc hat (by intro z;cases z)) (aW hdc hbo (by intro z;cases z)))
  ·refine qJ hpc nd hpk hk (fun q' e' nq' ⟨lv',⟨dz,ha'⟩,hl'⟩=>⟨lv',⟨dz,s6 _ _ (k5 _ _ (s3 _ _ ha') nq' ?_)⟩,hl'.move tp⟩) ⟨.ref q,⟨dp,s6 _ _ p5⟩,tq⟩
   exact aW ha' hbo (by intro z;injection z with _ _ z;injection z with z;injection z with z;exact absurd z (by decide +kernel))
end
end Ls
namespace L2
open PySem PySem.Spec PyProof.Rows PySem.W
section
variable {X:Cx}
def sThawR (H0:Hp) (t:TS):TS:=fun D σ H=>t { D with nx:=fun σ1 H1=>∃a o kvs,H1 a=some (.frz o (.dK kvs))∧(∀o v,H0 a≠some (.frz o v))∧D.nx σ1 (upd H1 a (.dK kvs)),rt:=fun v H1=>∃a o kvs,H1 a=some (.frz o (.dK kvs))∧(∀o v,H0 a≠some (.frz o v))∧D.rt v (upd H1 a (.dK kvs)) } σ H
theorem AcP {st:Stmt} {t:TS} (h:PS X st t):PS X st (sThawR X.H₀ t):=fun pins s σ H D I q=>thn (h pins s σ H _ I q) fun f s1 z=>by
 cases f with
 | next=>
  obtain⟨σ1,H1,I1,a,o,kvs,z1,z2,z3⟩:=z
  exact⟨σ1,_,I1.thaw z1 z2,z3⟩
 | ret u=>
  obtain⟨v,σ1,H1,I1,r,a,o,kvs,z1,z2,z3⟩:=z
  exact⟨v,σ1,_,I1.thaw z1 z2,r,z3⟩
 | brk=>exact z
 | cont=>exact z
end
end L2
namespace Ls
open PySem L2 PySem.W
def Pc.has (c:Pc) (tk:Int):Bool:=c.o.any fun t=>decide (t.1=tk)
def wY (CB CP:Addr):Sp:=fun vs H Q _=>∃(b pw sh d:Addr) (sp ev le nn nt mo tk i:Int) (ps:List Addr) (cs:List Pc) (k:Nat) (p:Addr) (c:Pc),vs=[.ref b,.int tk,.int i]∧iO CB CP H b pw sh d sp ev le nn nt mo ps cs∧mo≤i∧0≤tk∧tk<nt∧ps[k]?=some p∧cs[k]?=some c∧c.has tk=true ∧
 (∀j e,cs[j]?=some e→j<k→e.has tk=false)∧∀H',aL H H'→Q (.ref p) H'
section
variable {P:Program} {w:World} {K:PySem.W.Frag} {mg:Str→Option Value} {base:Heap}
theorem AcE:aR ["self","token","moment","piece"] ["self","token","moment"] (aH mV):=⟨rfl,rfl,rfl,by decide +kernel,rfl,by decide +kernel,by decide +kernel⟩
theorem ok_held {f CB CP fM fW fH:Addr} {fd fdM fdW fdH:FuncData} (F:Fun K "held_piece" "Book.held_piece" mV f fd) (TB:Bl K mg CB) (TP:Pl K mg CP)
  (GM:aK P w K mg base CX0 2 fM fdM ["self","moment"] (oT CB)) (bM:aP K fdM ["self","moment"] []) (mM:cJ K CB "check_moment" fM)
  (GW:aK P w K mg base CX0 2 fW fdW ["thing"] dW) (kW:keepIn K (.ref fW)=true) (bW:aP K fdW ["thing"] []) (mW:mg "is_whole"=some (.ref fW))
  (GH:aK P w K mg base CX0 2 fH fdH ["self","token"] (wZ CP)) (bH:aP K fdH ["self","token"] []) (mH:cJ K CP "has_token" fH):
  aK P w K mg base CX0 3 f fd ["self","token","moment"] (wY CB CP):=by
 refine F.ok AcE (fun vs H Q E h=>?_) (fun cdv A outer s H vs Q E hr h=>?_)
 ·obtain⟨b,pw,sh,d,sp,ev,le,nn,nt,mo,tk,i,ps,cs,k,p,c,rfl,_⟩:=h
  rfl
 ·obtain⟨b,pw,sh,d,sp,ev,le,nn,nt,mo,tk,i₀,ps,cs,k,p,c,rfl,hb,hi,t0,t1,hp,hc,ht,bf',t⟩:=h
  refine⟨_,aF (cU (dQ (pv 0) TB.cl mM GM hr bM .nil aY (aA (pv 2) aE)))
   (aF (cK (PW.pt (gK (cY (cX (bJ GW hr rfl mW kW bW .nil aY (aA (pv 1) aE)))) (eV (cY (qE lH eU aD (pv 1) (aU (pv 0) rfl)))))) cC aZ)
   (aF (AcP (eG PassesOwn.never rfl (yU (uK (aU (pv 0) rfl))) (bX (i:=3) AcE.nd rfl (Or.inl rfl))
    (aJ (cK (cX (dQ (pv 3) TP.cl mH GH hr bH .nil aY (aA (pv 1) aE))) (aJ (bQ (pv 3))) aZ)))) cC)),?_⟩
  have sl:sizeLine=16777216:=sizeLine_eq
  obtain⟨⟨dx,hbo⟩,hdc,hpc⟩:=id hb
  have nf:∀(o:Obj) (v:HO),H d≠some (.frz o v):=fun o v z=>by rw [hdc] at z;cases z
  refine⟨_,rfl,b,dx,_,rfl,hbo,rfl,_,rfl,b,pw,sh,d,sp,ev,le,nn,nt,mo,i₀,rfl,⟨dx,hbo⟩,hi,?_⟩
  refine⟨_,rfl,_,rfl,.kn (.int _),_,rfl,dS ?_⟩
  refine⟨_,rfl,_,_,rfl,rfl,_,rfl,nP (decide_eq_true (by omega)) ⟨_,rfl,b,CB,dx,_,_,rfl,hbo,TB.cl,TB.nT,rfl,_,_,rfl,rfl,_,rfl,gW (by rw [decide_eq_true (by omega)];rfl) ?_⟩⟩
  refine⟨_,rfl,b,CB,dx,_,_,rfl,hbo,TB.cl,TB.nB,rfl,.inr (.inr (.inl ⟨rfl,.inl ⟨_,hdc⟩⟩)),d,_,rfl,rfl,hdc,fun v nv=>?_⟩
  have s1:aL H (upd H v (fO v d)):=aI nv
  have e1:(upd H v (fO v d)) v=some (fO v d):=aB
  generalize upd H v (fO v d)=H1 at s1 e1 ⊢
  have hd1:=s1 _ _ hdc
  have hp1:=eF (aL.toT s1) hpc
  refine⟨v,d,dkv ps cs,rfl,e1,hd1,fun o=>?_⟩
  have fz:(upd H1 d (.frz o (.dK (dkv ps cs)))) d=some (.frz o (.dK (dkv ps cs))):=aB
  have kp:∀a u,H1 a=some u→a≠d→(upd H1 d (.frz o (.dK (dkv ps cs)))) a=some u:=fun a u e n=>by rw [aC n];exact e
  have bk:aL H (upd (upd H1 d (.frz o (.dK (dkv ps cs)))) d (.dK (dkv ps cs))):=s1.trans (rY hd1 (aL.refl _))
  generalize upd H1 d (.frz o (.dK (dkv ps cs)))=H2 at fz kp bk ⊢
  refine AeA (a:=d) (o:=o) (kvs:=dkv ps cs) (fun i σ G=>i≤k∧G=H2∧∃u,σ=[some (.ref b),some (.int tk),some (.int i₀),u]) ⟨Nat.zero_le _,rfl,_,rfl⟩ (fun i σ G _ h=>by rw [h.2.1];exact fz) ?_ ?_
  ·rintro i e σ G he ⟨hi',rfl,u,rfl⟩
   obtain⟨c',p',h1,h2,rfl⟩:=uQ he
   obtain⟨c'',h1',lv,⟨dp,hat⟩,hld⟩:=bO hp1 h2
   rw [h1] at h1'
   cases h1'
   have hat2:=kp _ _ hat (aW hat hd1 (by intro z;cases z))
   have hld2:nZ G lv c'.o:=hld.move fun q ys h=>kp _ _ h (aW h hd1 (by intro z;cases z))
   refine dD ?_
   refine⟨_,rfl,p',dp,_,rfl,hat2,rfl,_,rfl,p',_,_,_,_,tk,lv,c'.o,rfl,⟨dp,hat2⟩,hld2,_,rfl,?_⟩
   by_cases z:i=k
   ·subst z
    rw [hc] at h1
    cases h1
    rw [hp] at h2
    cases h2
    exact nP ht ⟨_,rfl,d,o,_,fz,nf,t _ bk⟩
   ·exact gW (bf' i c' h1 (by omega)) ⟨by omega,rfl,_,rfl⟩
  ·rintro σ G ⟨hi',_⟩
   have:=(List.getElem?_eq_some_iff.mp hc).1
   rw [lL hpc] at hi'
   omega
end
end Ls
namespace Ls
open PySem L2 PySem.W
def pM (CB CS CP:Addr):Sp:=fun vs H Q _=>∃(b pw sh d pw' d' nr:Addr) (sp ev le nn nt mo tk i pl:Int) (ps:List Addr) (cs:List Pc) (k:Nat) (p:Addr) (c:Pc) (ws:Lm.Ps) (kvs:List (Key × V)) (ns:List Int),vs=[.ref b,.int tk,.int pl,.ref nr,.int i]∧iO CB CP H b pw sh d sp ev le nn nt mo ps cs∧cR CS H sh pw' d' ws kvs ∧
 mo≤i∧0≤tk∧tk<nt∧ps[k]?=some p∧cs[k]?=some c∧c.has tk=true∧(∀j e,cs[j]?=some e→j<k→e.has tk=false)∧H nr=some (.tup (ns.map V.int))∧ns.length≤1000∧c.l≤pl∧pl≤c.m∧pl+ns.length≤c.m+ev∧-(2 ^ 61)≤pl∧pl≤2 ^ 61 ∧
 (∀(j:Nat) n,ns[j]?=some n→pl+(j:Int)<c.m→eM kvs (Sum.inl (pl+(j:Int)):Key)=some (.int n))∧∀H',aL H H'→Q (.ref p) H'
section
variable {P:Program} {w:World} {K:PySem.W.Frag} {mg:Str→Option Value} {base:Heap}
theorem kY:aR ["self","token","place","numbers","moment","piece","at","number"] ["self","token","place","numbers","moment"] (aH hZ):=⟨rfl,rfl,rfl,by decide +kernel,rfl,by decide +kernel,by decide +kernel⟩
theorem AaL {f CB CS CP fH fW fN fR:Addr} {fd fdH fdW fdN fdR:FuncData} (F:Fun K "piece_to_tell" "Book.piece_to_tell" hZ f fd) (G:Gb mg) (TB:Bl K mg CB) (TS:Cl K mg CS) (TP:Pl K mg CP)
  (GH:aK P w K mg base CX0 3 fH fdH ["self","token","moment"] (wY CB CP)) (bH:aP K fdH ["self","token","moment"] []) (mH:cJ K CB "held_piece" fH)
  (GW:aK P w K mg base CX0 3 fW fdW ["thing"] dW) (kW:keepIn K (.ref fW)=true) (bW:aP K fdW ["thing"] []) (mW:mg "is_whole"=some (.ref fW))
  (GN:aK P w K mg base CX0 3 fN fdN ["thing"] tV) (kN:keepIn K (.ref fN)=true) (bN:aP K fdN ["thing"] []) (mN:mg "is_numbers"=some (.ref fN))
  (GR:aK P w K mg base CX0 3 fR fdR ["self","place"] (spRes CS)) (bR:aP K fdR ["self","place"] []) (mR:cJ K CS "result_at" fR):
  aK P w K mg base CX0 4 f fd ["self","token","place","numbers","moment"] (pM CB CS CP):=by
 refine F.ok kY (fun vs H Q E h=>?_) (fun cdv A outer s H vs Q E hr h=>?_)
 ·obtain⟨b,pw,sh,d,pw',d',nr,sp,ev,le,nn,nt,mo,tk,i,pl,ps,cs,k,p,c,ws,kvs,ns,rfl,_⟩:=h
  rfl
 ·obtain⟨b,pw,sh,d,pw',d',nr,sp,ev,le,nn,nt,mo,tk,i,pl,ps,cs,k,p,c,ws,kvs,ns,rfl,hb,hs,hi,t0,t1,hp,hc,ht,bf',hn,ln,p1,p2,p3,p4,p5,ok,t⟩:=h
  refine⟨_,aF (bU (i:=5) kY.nd rfl (Or.inl rfl) (dQ (pv 0) TB.cl mH GH hr bH .nil aY (aA (pv 1) (aA (pv 4) aE))))
   (aF (cK (PW.pt (gK (cY (cX (bJ GW hr rfl mW kW bW .nil aY (aA (pv 2) aE)))) (eV (cY (qE lH lH (aU (pv 5) rfl) (pv 2) (aU (pv 5) rfl)))))) cC aZ)
   (aF (cK (cY (cX (bJ GN hr rfl mN kN bN .nil aY (aA (pv 3) aE)))) cC aZ)
   (aF (cK (bZ op_gt (aS cQ (pv 2) (aV cD (by rfl) G.len PySem.boot_len (aA (pv 3) aE))) (aS cQ (aU (pv 5) rfl) (aU (pv 0) rfl)) (cA _)) cC aZ)
   (aF (eG PassesOwn.never rfl (yV (by rfl) G.enum tF (aA (pv 3) aE) (oW (pv 2) uI)) (iH (n:=2) rfl (cS (bX (i:=6) kY.nd rfl (Or.inl rfl)) (cS (bX (i:=7) kY.nd rfl (Or.inl rfl)) fQ)))
    (aJ (cK (PW.pt (nA (bZ eU (pv 6) (aU (pv 5) rfl) (cA _)) (jJ (bZ vO (pv 7) (dQ (aU (pv 0) rfl) TS.cl mR GR hr bR .nil aY (aA (pv 6) aE)) (cA _))))) cC aZ)))
   (aJ (bQ (pv 5))))))),?_⟩
  have sl:sizeLine=16777216:=sizeLine_eq
  obtain⟨⟨dx,hbo⟩,hdc,hpc⟩:=id hb
  obtain⟨c',hc',lv,⟨dp,hat⟩,hld⟩:=bO hpc hp
  rw [hc] at hc'
  cases hc'
  refine⟨_,rfl,b,dx,_,rfl,hbo,rfl,_,rfl,_,rfl,b,pw,sh,d,sp,ev,le,nn,nt,mo,tk,i,ps,cs,k,p,c,rfl,hb,hi,t0,t1,hp,hc,ht,bf',fun H1 s1=>?_⟩
  have hat1:=s1 _ _ hat
  refine⟨_,rfl,_,rfl,.kn (.int _),_,rfl,dS ?_⟩
  refine⟨_,rfl,p,CP,dp,_,_,rfl,hat1,TP.cl,TP.nL,rfl,_,rfl,_,_,rfl,rfl,_,rfl,nP (decide_eq_true p1) ⟨_,rfl,p,CP,dp,_,_,rfl,hat1,TP.cl,TP.nM,rfl,_,_,rfl,rfl,_,rfl,gW (by rw [decide_eq_true p2];rfl) ?_⟩⟩
  refine⟨_,rfl,nr,ns,rfl,s1 _ _ hn,ln,fun H2 s2=>⟨_,rfl,dS ?_⟩⟩
  have t2:=s1.trans s2
  have hat2:=t2 _ _ hat
  have hbo2:=t2 _ _ hbo
  refine⟨_,rfl,_,rfl,nr,_,rfl,.inr (SqT.of (t2 _ _ hn)),_,_,rfl,rfl,_,rfl,p,CP,dp,_,_,rfl,hat2,TP.cl,TP.nM,rfl,_,rfl,b,CB,dx,_,_,rfl,hbo2,TB.cl,TB.nE,rfl,_,_,rfl,rfl,_,_,rfl,rfl,_,rfl,?_⟩
  refine dU (fun hc=>absurd hc (by simp;omega)) fun _=>?_
  refine⟨_,rfl,_,rfl,nr,pl,rfl,rfl,zJ p4 p5,⟨_,SqT.of (t2 _ _ hn)⟩,wH (K:=K) (a:=nr) (d:=pl) (xs:=ns.map V.int) (fun j σ G=>aL H2 G∧∃u v,σ=[some (.ref b),some (.int tk),some (.int pl),some (.ref nr),some (.int i),some (.ref p),u,v]) ⟨aL.refl _,_,_,rfl⟩ (fun j σ G _ h=>SqT.of (h.1 _ _ (t2 _ _ hn))) ?_ ?_⟩
  ·rintro j y σ G q hj ⟨sg,u,v,rfl⟩ nq
   have s3:aL G (upd G q (.tup [.int (pl+(j:Int)),y])):=aI nq
   have e3:(upd G q (.tup [.int (pl+(j:Int)),y])) q=some (.tup [.int (pl+(j:Int)),y]):=aB
   generalize upd G q (.tup [.int (pl+(j:Int)),y])=G3 at s3 e3 ⊢
   have t3:=t2.trans (sg.trans s3)
   obtain⟨n,hn',rfl⟩:∃n,ns[j]?=some n∧y=.int n:=by
    rw [List.getElem?_map] at hj
    cases z:ns[j]? with
    | none=>rw [z] at hj;cases hj
    | some n=>rw [z] at hj;exact⟨n,rfl,(Option.some.inj hj).symm⟩
   refine⟨q,_,rfl,SqT.of e3,rfl,_,_,rfl,_,_,rfl,rfl,?_⟩
   refine⟨_,rfl,_,rfl,p,CP,dp,_,_,rfl,t3 _ _ hat,TP.cl,TP.nM,rfl,_,_,rfl,rfl,_,rfl,?_⟩
   refine dU (fun hc=>?_) fun _=>dS ⟨sg.trans s3,_,_,rfl⟩
   have hlt:pl+(j:Int)<c.m:=by simpa using hc
   have S3:=hs.same t3
   obtain⟨dz,hz⟩:=S3.ob
   refine⟨_,rfl,_,rfl,b,CB,dx,_,_,rfl,t3 _ _ hbo,TB.cl,TB.nH,rfl,sh,dz,_,rfl,hz,gO _ _ (by decide +kernel) (by decide +kernel),_,rfl,sh,pw',d',ws,kvs,.int (pl+(j:Int)),rfl,S3,.kn (.int _),(fun z=>nomatch z),fun i' e=>?_⟩
   cases e
   rw [ok j n hn' hlt]
   exact⟨rfl,_,rfl,iteNS rfl ⟨sg.trans s3,_,_,rfl⟩⟩
  ·rintro σ G ⟨sg,u,v,rfl⟩
   exact⟨_,rfl,t _ (t2.trans sg)⟩
end
end Ls
namespace Ls
open PySem L2 PySem.W
theorem passE {P:Program} {w:World} {X:Cx}:gE (CXE P w) X E0:=fun _ _ _ _ _ _ _ h=>by
 obtain⟨_,_,_,_,_,_,_,_,_,z⟩:=h
 exact z.elim
def jS (ns:List Int) (lo hi:Option Int):List Int:=(ns.drop (HT.sIx ns.length 0 lo)).take (HT.sIx ns.length ns.length hi-HT.sIx ns.length 0 lo)
theorem AeJ (ns:List Int) (lo hi:Option Int):nV (ns.map V.int) lo hi=(jS ns lo hi).map V.int:=by
 unfold nV jS
 rw [List.length_map,List.map_take,List.map_drop]
theorem fr_len (ns:List Int) (lo hi:Option Int):(jS ns lo hi).length≤ns.length:=by
 unfold jS
 rw [List.length_take,List.length_drop]
 omega
def Pc.told (c:Pc) (n:Int) (u:Int):Pc:={ c with m:=c.m+n,o:=if c.m+n=c.h then none else c.o.map fun t=>(t.1,t.2.1,u) }
def wV (CB CS CP:Addr):Sp:=fun vs H Q _=>∃(b pw sh d pw' d' nr:Addr) (sp ev le nn nt mo tk i pl:Int) (ps:List Addr) (cs:List Pc) (k:Nat) (p:Addr) (c:Pc) (ws:Lm.Ps) (kvs:List (Key × V)) (ns:List Int),vs=[.ref b,.int tk,.int pl,.ref nr,.int i]∧iO CB CP H b pw sh d sp ev le nn nt mo ps cs∧cR CS H sh pw' d' ws kvs ∧
 mo≤i∧0≤tk∧tk<nt∧ps[k]?=some p∧cs[k]?=some c∧c.has tk=true∧(∀j e,cs[j]?=some e→j<k→e.has tk=false)∧H nr=some (.tup (ns.map V.int))∧ns.length≤1000∧c.l≤pl∧pl≤c.m∧pl+ns.length≤c.m+ev∧-(2 ^ 61)≤pl∧pl≤2 ^ 61 ∧
 (∀(j:Nat) n,ns[j]?=some n→pl+(j:Int)<c.m→eM kvs (Sum.inl (pl+(j:Int)):Key)=some (.int n))∧(cs.map Pc.n).Nodup∧d≠d'∧ws.length≤1000∧kvs.length≤1000 ∧
 (-(2 ^ 61)≤c.m∧c.m+(jS ns (some (c.m-pl)) (some (c.h-pl))).length≤2 ^ 61∧(∃q ∈ ws,q.1≤c.m∧c.m+(jS ns (some (c.m-pl)) (some (c.h-pl))).length≤q.2)∧∀j:Nat,j<(jS ns (some (c.m-pl)) (some (c.h-pl))).length→eM kvs (Sum.inl (c.m+(j:Int)):Key)=none) ∧
 ∀(r:Addr) (H':Hp),(∀a o,H a=some o→a≠b→a≠p→a≠d'→H' a=some o)→iO CB CP H' b pw sh d sp ev le nn nt i ps (cs.set k (c.told (jS ns (some (c.m-pl)) (some (c.h-pl))).length (i+sp))) →
  cR CS H' sh pw' d' ws (kvs++rA c.m (jS ns (some (c.m-pl)) (some (c.h-pl))) (jS ns (some (c.m-pl)) (some (c.h-pl))).length) →
  H' r=some (.tup [.int (c.m+(jS ns (some (c.m-pl)) (some (c.h-pl))).length),.int c.h,if c.m+(jS ns (some (c.m-pl)) (some (c.h-pl))).length=c.h then .non else .int (i+sp)])→Q (.ref r) H'
section
variable {P:Program} {w:World} {K:PySem.W.Frag} {mg:Str→Option Value} {base:Heap}
theorem uF:aR ["self","token","place","numbers","moment","piece","fresh","until"] ["self","token","place","numbers","moment"] (aH mO):=⟨rfl,rfl,rfl,by decide +kernel,rfl,by decide +kernel,by decide +kernel⟩
theorem ok_tell {f CB CS CP CT fT fL fD:Addr} {fd fdT fdL fdD:FuncData} (F:Fun K "tell" "Book.tell" mO f fd) (G:Gb mg) (TB:Bl K mg CB) (TS:Cl K mg CS) (TP:Pl K mg CP)
  (GT:aK P w K mg base CX0 4 fT fdT ["self","token","place","numbers","moment"] (pM CB CS CP)) (bT:aP K fdT ["self","token","place","numbers","moment"] []) (mT:cJ K CB "piece_to_tell" fT)
  (GL:aK P w K mg base (CXE P w) 4 fL fdL ["self","place","numbers"] (spLay CS CT)) (bL:aP K fdL ["self","place","numbers"] []) (mL:cJ K CS "lay" fL)
  (GD:aK P w K mg base CX0 4 fD fdD ["self"] (uB CP)) (bD:aP K fdD ["self"] []) (mD:cJ K CP "is_done" fD):
  aK P w K mg base CX0 5 f fd ["self","token","place","numbers","moment"] (wV CB CS CP):=by
 refine F.ok uF (fun vs H Q E h=>?_) (fun cdv A outer s H vs Q E hr h=>?_)
 ·obtain⟨b,pw,sh,d,pw',d',nr,sp,ev,le,nn,nt,mo,tk,i,pl,ps,cs,k,p,c,ws,kvs,ns,rfl,_⟩:=h
  rfl
 ·obtain⟨b,pw,sh,d,pw',d',nr,sp,ev,le,nn,nt,mo,tk,i,pl,ps,cs,k,p,c,ws,kvs,ns,rfl,hb,hs,hi,t0,t1,hp,hc,ht,bf',hn,ln,p1,p2,p3,p4,p5,ok,nd,ndd,lw,lk,⟨m1,m2,m3,m4⟩,t⟩:=h
  refine⟨_,aF (bU (i:=5) uF.nd rfl (Or.inl rfl) (dQ (pv 0) TB.cl mT GT hr bT .nil aY (aA (pv 1) (aA (pv 2) (aA (pv 3) (aA (pv 4) aE))))))
   (aF (bU (i:=6) uF.nd rfl (Or.inl rfl) (qI sl_all (pv 3) (lD (aS gC (aU (pv 5) rfl) (pv 2))) (lD (aS gC (aU (pv 5) rfl) (pv 2)))))
   (aF (cU (dQ (aU (pv 0) rfl) TS.cl mL GL hr bL .nil passE (aA (aU (pv 5) rfl) (aA (pv 6) aE))))
   (aF (sQ (pv 5) (aV cD (by rfl) G.len PySem.boot_len (aA (pv 6) aE)) AdU)
   (aF (dF (pv 0) (pv 4) rfl)
   (aF (cK (cX (cN (pv 5) TP.cl mD GD hr bD .nil aY)) (aF (dF (pv 5) eZ rfl) (aJ (bQ (cF (aA (aU (pv 5) rfl) (aA (aU (pv 5) rfl) (aA eZ aE))))))) aZ)
   (aF (bU (i:=7) uF.nd rfl (Or.inl rfl) (aS cQ (pv 4) (aU (pv 0) rfl)))
   (aF (dF (pv 5) (cF (aA (pv 1) (aA (aX cI (aU (pv 5) rfl) aD (fun _ _=>rfl)) (aA (pv 7) aE)))) rfl)
   (aJ (bQ (cF (aA (aU (pv 5) rfl) (aA (aU (pv 5) rfl) (aA (pv 7) aE))))))))))))),?_⟩
  have sl:sizeLine=16777216:=sizeLine_eq
  obtain⟨⟨dx,hbo⟩,hdc,hpc⟩:=id hb
  obtain⟨c',hc',lv,⟨dp,hat⟩,hld⟩:=bO hpc hp
  rw [hc] at hc'
  cases hc'
  refine⟨_,rfl,b,dx,_,rfl,hbo,rfl,_,rfl,_,rfl,_,rfl,_,rfl,b,pw,sh,d,pw',d',nr,sp,ev,le,nn,nt,mo,tk,i,pl,ps,cs,k,p,c,ws,kvs,ns,rfl,hb,hs,hi,t0,t1,hp,hc,ht,bf',hn,ln,p1,p2,p3,p4,p5,ok,fun H1 s1=>?_⟩
  have hat1:=s1 _ _ hat
  refine⟨_,rfl,_,rfl,p,CP,dp,_,_,rfl,hat1,TP.cl,TP.nM,rfl,_,rfl,_,_,rfl,rfl,_,rfl,_,rfl,p,CP,dp,_,_,rfl,hat1,TP.cl,TP.nH,rfl,_,rfl,_,_,rfl,rfl,_,rfl,nr,_,rfl,s1 _ _ hn,fun q H2 s2 e2=>?_⟩
  rw [AeJ] at e2
  have lf:=fr_len ns (some (c.m-pl)) (some (c.h-pl))
  generalize jS ns (some (c.m-pl)) (some (c.h-pl))=fr at e2 lf m2 m3 m4 t
  have t2:=s1.trans s2
  have hs2:=hs.same t2
  obtain⟨dz,hz⟩:=hs2.ob
  refine⟨_,rfl,b,CB,dx,_,_,rfl,t2 _ _ hbo,TB.cl,TB.nH,rfl,sh,dz,_,rfl,hz,gO _ _ (by decide +kernel) (by decide +kernel),_,rfl,p,CP,dp,_,_,rfl,t2 _ _ hat,TP.cl,TP.nM,rfl,_,rfl,sh,pw',d',q,ws,kvs,c.m,fr,rfl,hs2,e2,lw,by omega,lk,m1,m2,m3,fun _ H3 e3 k3=>?_,fun⟨j,hj,z⟩=>absurd (m4 j hj) z⟩
  have npd':p≠d':=aW hat hs.dc (by intro z;cases z)
  have nbd':b≠d':=aW hbo hs.dc (by intro z;cases z)
  have npb:p≠b:=aW hat hbo (by intro z;injection z with _ _ z;injection z with z;injection z with z;exact absurd z (by decide +kernel))
  have hat3:=k3 _ _ (t2 _ _ hat) npd'
  have hbo3:=k3 _ _ (t2 _ _ hbo) nbd'
  have eq3:H3 q=some (.tup (fr.map V.int)):=k3 _ _ e2 (aW e2 hs2.dc (by intro z;cases z))
  refine⟨_,rfl,p,CP,dp,_,_,rfl,hat3,TP.cl,TP.nM,rfl,_,rfl,q,_,rfl,.inr (SqT.of eq3),_,_,rfl,rfl,dp,_,hat3,(by show 5<1000;decide),?_⟩
  rw [pf_mark,List.length_map]
  refine⟨_,rfl,_,rfl,b,CB,dx,_,rfl,(by rw [aC npb.symm];exact hbo3),TB.cl,TB.nM,(by show 9<1000;decide),?_⟩
  rw [tN]
  generalize hM:c.m+(fr.length:Int)=M at *
  have k5:∀a o,H3 a=some o→a≠p→a≠b→(upd (upd H3 p (.ins CP dp (pf c.n c.l c.h M lv))) b (.ins CB dx (bf pw sh d sp ev le nn nt i))) a=some o:=fun a o e n1 n2=>by
   rw [aC n2,aC n1]
   exact e
  have p5:(upd (upd H3 p (.ins CP dp (pf c.n c.l c.h M lv))) b (.ins CB dx (bf pw sh d sp ev le nn nt i))) p=some (.ins CP dp (pf c.n c.l c.h M lv)):=by rw [aC npb,aB]
  have b5:(upd (upd H3 p (.ins CP dp (pf c.n c.l c.h M lv))) b (.ins CB dx (bf pw sh d sp ev le nn nt i))) b=some (.ins CB dx (bf pw sh d sp ev le nn nt i)):=aB
  generalize upd (upd H3 p (.ins CP dp (pf c.n c.l c.h M lv))) b (.ins CB dx (bf pw sh d sp ev le nn nt i))=H5 at k5 p5 b5 ⊢
  have f5:∀a o,H a=some o→a≠b→a≠p→a≠d'→H5 a=some o:=fun a o e n1 n2 n3=>k5 _ _ (k3 _ _ (t2 _ _ e) n3) n2 n1
  have tp5:∀a ys,H a=some (.tup ys)→H5 a=some (.tup ys):=fun a ys e=>f5 _ _ e (aW e hbo (by intro z;cases z)) (aW e hat (by intro z;cases z)) (aW e hs.dc (by intro z;cases z))
  have d5:H5 d'=some (.dK (kvs++rA c.m fr fr.length)):=k5 _ _ e3 npd'.symm nbd'.symm
  have fin:∀(r:Addr) (H':Hp) (lv':V),(∀a o,H5 a=some o→a≠p→H' a=some o)→H' p=some (.ins CP dp (pf c.n c.l c.h M lv'))→nZ H' lv' (if M=c.h then none else c.o.map fun t=>(t.1,t.2.1,i+sp))→H' r=some (.tup [.int M,.int c.h,if M=c.h then .non else .int (i+sp)])→Q (.ref r) H':=fun r H' lv' fk hp' hl' hr'=>by
   refine t r H' (fun a o e n1 n2 n3=>fk _ _ (f5 a o e n1 n2 n3) n2) ⟨⟨dx,fk _ _ b5 npb.symm⟩,?_,?_⟩ ⟨?_,?_,?_⟩ hr'
   ·rw [zL (c':=c.told fr.length (i+sp)) hc rfl]
    exact fk _ _ (f5 _ _ hdc (aW hdc hbo (by intro z;cases z)) (aW hdc hat (by intro z;cases z)) ndd) (aW hdc hat (by intro z;cases z))
   ·refine qJ hpc nd hp hc (fun q' e' nq' ⟨lv2,⟨dz2,ha'⟩,hl2⟩=>⟨lv2,⟨dz2,fk _ _ (f5 _ _ ha' ?_ nq' (aW ha' hs.dc (by intro z;cases z))) nq'⟩,hl2.move fun a ys e=>fk _ _ (tp5 a ys e) (aW e hat (by intro z;cases z))⟩) ?_
    ·exact aW ha' hbo (by intro z;injection z with _ _ z;injection z with z;injection z with z;exact absurd z (by decide +kernel))
    ·unfold Pc.told gG
     rw [hM]
     exact⟨lv',⟨dp,hp'⟩,hl'⟩
   ·obtain⟨dy,hy⟩:=hs.ob
    have n1:sh≠b:=aW hy hbo (by intro z;injection z with _ _ z;exact absurd (congrArg List.length z) (by show ¬ 2=9;decide))
    have n2:sh≠p:=aW hy hat (by intro z;injection z with _ _ z;exact absurd (congrArg List.length z) (by show ¬ 2=5;decide))
    exact⟨dy,fk _ _ (f5 _ _ hy n1 n2 (aW hy hs.dc (by intro z;cases z))) n2⟩
   ·obtain⟨xs,x1,x2⟩:=hs.wk
    exact⟨xs,fk _ _ (tp5 _ _ x1) (aW x1 hat (by intro z;cases z)),bV (fun v r ⟨b',z1,z2⟩=>⟨b',z1,fk _ _ (tp5 _ _ z2) (aW z2 hat (by intro z;cases z))⟩) x2⟩
   ·exact fk _ _ d5 npd'.symm
  refine⟨_,rfl,p,dp,_,rfl,p5,rfl,p,_,_,_,_,lv,rfl,⟨dp,p5⟩,_,rfl,?_⟩
  refine dU (fun hd=>?_) (fun hd=>?_)
  ·have hd:M=c.h:=by simpa using hd
   refine⟨_,rfl,p,CP,dp,_,rfl,p5,TP.cl,TP.nD,(by show 5<1000;decide),?_⟩
   rw [uJ]
   refine⟨_,rfl,p,CP,dp,_,_,rfl,aB,TP.cl,TP.nM,rfl,_,rfl,p,CP,dp,_,_,rfl,aB,TP.cl,TP.nH,rfl,by show 3≤sizeLine;decide,fun r nr=>?_⟩
   refine fin r _ .non (fun a o e n=>aI nr _ _ (by rw [aC n];exact e)) (aI nr _ _ aB) ?_ ?_
   ·rw [if_pos hd]
    trivial
   ·rw [if_pos hd]
    exact aB
  ·have hd:¬ M=c.h:=by simpa using hd
   obtain⟨z,hz'⟩:∃z,c.o=some z:=by
    cases q':c.o with
    | none=>unfold Pc.has at ht;rw [q'] at ht;cases ht
    | some z=>exact⟨z,rfl⟩
   have ht':z.1=tk:=by
    unfold Pc.has at ht
    rw [hz'] at ht
    simpa using ht
   rw [hz'] at hld
   obtain⟨lq,rfl⟩:∃lq,lv=.ref lq:=by
    cases lv with
    | ref lq=>exact⟨lq,rfl⟩
    | _=>exact hld.elim
   have hlq:H lq=some (.tup [.int z.1,.str z.2.1,.int z.2.2]):=hld
   refine⟨_,rfl,_,rfl,b,CB,dx,_,_,rfl,b5,TB.cl,TB.nS,rfl,_,_,rfl,rfl,?_⟩
   refine⟨_,rfl,_,rfl,p,CP,dp,_,_,rfl,p5,TP.cl,TP.nD,rfl,lq,_,_,_,rfl,rfl,SqT.of (tp5 _ _ hlq),aM (j:=1) rfl,_,rfl,by show 3≤sizeLine;decide,fun q2 nq2=>?_⟩
   have s6:aL H5 (upd H5 q2 (.tup [.int tk,.str z.2.1,.int (i+sp)])):=aI nq2
   have e6:(upd H5 q2 (.tup [.int tk,.str z.2.1,.int (i+sp)])) q2=some (.tup [.int tk,.str z.2.1,.int (i+sp)]):=aB
   generalize upd H5 q2 (.tup [.int tk,.str z.2.1,.int (i+sp)])=H6 at s6 e6 ⊢
   refine⟨_,rfl,p,CP,dp,_,rfl,s6 _ _ p5,TP.cl,TP.nD,(by show 5<1000;decide),?_⟩
   rw [uJ]
   refine⟨_,rfl,p,CP,dp,_,_,rfl,aB,TP.cl,TP.nM,rfl,_,rfl,p,CP,dp,_,_,rfl,aB,TP.cl,TP.nH,rfl,_,rfl,by show 3≤sizeLine;decide,fun r nr=>?_⟩
   refine fin r _ (.ref q2) (fun a o e n=>aI nr _ _ (by rw [aC n];exact s6 _ _ e)) (aI nr _ _ aB) ?_ ?_
   ·rw [if_neg hd,hz']
    rw [← ht'] at e6
    exact aI nr _ _ (by rw [aC (aW e6 (s6 _ _ p5) (by intro z;cases z))];exact e6)
   ·rw [if_neg hd]
    exact aB
end
end Ls
namespace Ls
open PySem L2 PySem.W
structure Bb (K:PySem.W.Frag) (mg:Str→Option Value) (CX:Addr):Prop where
 mB:mg "BadBound"=some (.ref CX)
 ex:rK K CX
def okB:V→Bool
 | .int i=>decide (1≤i)
 | _=>false
def AaA (x y z:V):Prop:=okB x=false∨okB y=false∨okB z=false∨∃a b,y=.int a∧z=.int b∧b<a
def lT (CX:Addr):Sp:=fun vs H Q E=>∃x y z,vs=[x,y,z]∧Knd H x∧Knd H y∧Knd H z∧AaA x y z∧∀H',aL H H'→E (.ref CX) none H'
section
variable {P:Program} {w:World} {K:PySem.W.Frag} {mg:Str→Option Value} {base:Heap}
theorem xP {f fW CX:Addr} {fd fdW:FuncData} (F:Fun K "check_bounds" "check_bounds" iG f fd) (TX:Bb K mg CX) (GW:aK P w K mg base CX0 1 fW fdW ["thing"] dW) (kW:keepIn K (.ref fW)=true) (bW:aP K fdW ["thing"] []) (mW:mg "is_whole"=some (.ref fW)):aK P w K mg base (CXE P w) 2 f fd ["span","every","least"] (lT CX):=by
 refine F.okE lB (fun vs H Q E h=>?_) (fun cdv A outer s H vs Q E hr h=>?_)
 ·obtain⟨x,y,z,rfl,_⟩:=h
  rfl
 ·obtain⟨x,y,z,rfl,kx,ky,kz,bad,t⟩:=h
  refine⟨_,aF (eG PassesOwn.leaving rfl (gQ (cF (aA (pv 0) (aA (pv 1) (aA (pv 2) aE))))) (bX (i:=3) lB.nd rfl (Or.inl rfl))
   (aJ (cK (PW.pt (gK (cY (cX (bJ GW hr rfl mW kW bW .nil aY (aA (pv 3) aE)))) (eV (bZ eU (pv 3) aD (cA _))))) (aJ (lC rfl TX.ex rfl TX.mB gJ (aA eY aE))) aZ)))
   (aJ (cK (bZ eU (pv 2) (pv 1) (cA _)) (aJ (lC rfl TX.ex rfl TX.mB gJ (aA eY aE))) aZ)),?_⟩
  refine⟨_,rfl,_,rfl,_,rfl,by show 3≤sizeLine;decide,fun r nr=>?_⟩
  have s1:aL H (upd H r (.tup [x,y,z])):=aI nr
  have e1:(upd H r (.tup [x,y,z])) r=some (.tup [x,y,z]):=aB
  generalize upd H r (.tup [x,y,z])=H1 at s1 e1 ⊢
  have al:∀v ∈ [x,y,z],Knd H1 v:=aN (kx.same s1) (aN (ky.same s1) (aN (kz.same s1) cO))
  refine⟨r,rfl,⟨_,SqT.of e1⟩,jQ (K:=K) (a:=r) (xs:=[x,y,z]) (fun i σ G=>G=H1∧(∀(j:Nat) v,[x,y,z][j]?=some v→j<i→okB v=true)∧∃u,σ=[some x,some y,some z,u]) ⟨rfl,fun _ _ _ h=>absurd h (Nat.not_lt_zero _),_,rfl⟩ (fun i σ G _ h=>by rw [h.1];exact SqT.of e1) ?_ ?_⟩
  ·rintro i v σ G hi ⟨rfl,hok,u,rfl⟩
   have kv:=al v (List.mem_of_getElem? hi)
   refine dD ?_
   refine⟨_,rfl,_,rfl,kv,_,rfl,?_⟩
   cases hv:iP v with
   | false=>exact eL (eL ⟨by show 1≤sizeLine;decide,t _ s1⟩)
   | true=>
    obtain⟨n,rfl⟩:∃n,v=.int n:=by
     cases v with
     | int n=>exact⟨n,rfl⟩
     | _=>cases hv
    refine dS ?_
    refine⟨_,rfl,_,_,rfl,rfl,_,rfl,?_⟩
    refine dU (fun hc=>⟨by show 1≤sizeLine;decide,t _ s1⟩) fun hc=>⟨rfl,fun j w' hj hl=>?_,_,rfl⟩
    by_cases z':j=i
    ·subst z'
     rw [hi] at hj
     cases hj
     exact decide_eq_true (by simp at hc;omega)
    ·exact hok j w' hj (by omega)
  ·rintro σ G ⟨rfl,hok,u,rfl⟩
   have o1:=hok 0 x rfl (by show 0<3;decide)
   have o2:=hok 1 y rfl (by show 1<3;decide)
   have o3:=hok 2 z rfl (by show 2<3;decide)
   rcases bad with h|h|h|⟨a,b,rfl,rfl,hab⟩
   ·rw [o1] at h;cases h
   ·rw [o2] at h;cases h
   ·rw [o3] at h;cases h
   ·refine⟨_,rfl,_,rfl,_,_,rfl,rfl,_,rfl,?_⟩
    exact nP (decide_eq_true hab) ⟨by show 1≤sizeLine;decide,t _ s1⟩
def pQ (CW:Addr):Sp:=fun vs H Q E=>∃(p:Addr) (v x y z:V),vs=[.ref p,v,x,y,z]∧gD H v false∧E (.ref CW) none H
def pT (CX:Addr):Sp:=fun vs H Q E=>∃(p q:Addr) (a:Lm.Ps) (x y z:V),vs=[.ref p,.ref q,x,y,z]∧cW H q a∧Lm.Wk a∧a.length≤1000∧Knd H x∧Knd H y∧Knd H z∧AaA x y z∧∀H',aL H H'→E (.ref CX) none H'
theorem AaO {f CW fC:Addr} {fd fdC:FuncData} (F:Fun K "__init__" "Book.__init__" gA f fd) (GC:aK P w K mg base (CXE P w) 4 fC fdC ["work"] (spRef CW)) (kC:keepIn K (.ref fC)=true) (bC:aP K fdC ["work"] []) (mC:mg "check_work"=some (.ref fC)):
  aK P w K mg base (CXE P w) 5 f fd ["self","work","span","every","least"] (pQ CW):=by
 refine F.okE lA (fun vs H Q E h=>?_) (fun cdv A outer s H vs Q E hr h=>?_)
 ·obtain⟨p,v,x,y,z,rfl,_⟩:=h
  rfl
 ·obtain⟨p,v,x,y,z,rfl,hw,q⟩:=h
  refine⟨_,aF (cU (bJ GC hr rfl mC kC bC .nil (sS (E':=E) fun _ _ _ z=>z) (aA (pv 1) aE))) cC,?_⟩
  exact⟨_,rfl,v,rfl,hw,q⟩
theorem AaP {f CX fC fB:Addr} {fd fdC fdB:FuncData} (F:Fun K "__init__" "Book.__init__" gA f fd) (GC:aK P w K mg base CX0 4 fC fdC ["work"] kX) (kC:keepIn K (.ref fC)=true) (bC:aP K fdC ["work"] []) (mC:mg "check_work"=some (.ref fC))
  (GB:aK P w K mg base (CXE P w) 4 fB fdB ["span","every","least"] (lT CX)) (kB:keepIn K (.ref fB)=true) (bB:aP K fdB ["span","every","least"] []) (mB:mg "check_bounds"=some (.ref fB)):
  aK P w K mg base (CXE P w) 5 f fd ["self","work","span","every","least"] (pT CX):=by
 refine F.okE lA (fun vs H Q E h=>?_) (fun cdv A outer s H vs Q E hr h=>?_)
 ·obtain⟨p,q,a,x,y,z,rfl,_⟩:=h
  rfl
 ·obtain⟨p,q,a,x,y,z,rfl,hw,wa,la,kx,ky,kz,bad,t⟩:=h
  refine⟨_,aF (cU (bJ GC hr rfl mC kC bC .nil aY (aA (pv 1) aE))) (aF (cU (bJ GB hr rfl mB kB bB .nil (sS (E':=E) fun _ _ _ z=>z) (aA (pv 2) (aA (pv 3) (aA (pv 4) aE))))) cC),?_⟩
  refine⟨_,rfl,q,a,rfl,hw,wa,la,?_⟩
  exact⟨_,rfl,_,rfl,_,rfl,x,y,z,rfl,kx,ky,kz,bad,t⟩
end
end Ls
namespace Ls
open PySem L2 PySem.W
def xC (K:Frag):Sp:=fun vs H Q _=>∃(a:Addr) (ns:List Int) (k:Nat),vs=[.ref a,.int k]∧SqL K H a (ns.map V.int)∧ns.length≤63∧∀c,Q (.int c) H
def rC:Int:=10 ^ 18+9
def jD:Sp:=fun vs H Q _=>∃(c:Int) (m:Nat),vs=[.int c,.int m]∧m≤20 ∧
 ∀(l:Addr) (xs:List Int) (H':Hp),aL H H'→xs.length=m→(∀x ∈ xs,0≤x∧x<rC)→H' l=some (.lst (xs.map V.int))→Q (.ref l) H'
section
variable {P:Program} {w:World} {K:PySem.W.Frag} {mg:Str→Option Value} {base:Heap}
theorem scCell:aR ["_law_script","_law_k"] ["_law_script","_law_k"] (aH sO):=⟨rfl,rfl,rfl,by decide +kernel,rfl,by decide +kernel,by decide +kernel⟩
theorem ok_cell {f:Addr} {fd:FuncData} (F:Fun K "_law_cell_at" "_law_cell_at" sO f fd) (G:Gb mg):aK P w K mg base CX0 1 f fd ["_law_script","_law_k"] (xC K):=by
 refine F.ok scCell (fun vs H Q E h=>?_) (fun cdv A outer s H vs Q E hr h=>?_)
 ·obtain⟨a,ns,k,rfl,_⟩:=h
  rfl
 ·obtain⟨a,ns,k,rfl,hS,hl,q⟩:=h
  refine⟨_,aF (cK (bZ eU (pv 1) (aV cD (by rfl) G.len PySem.boot_len (aA (pv 0) aE)) (cA _)) (aJ (bQ (aX bE (pv 0) (pv 1) (fun _ _=>rfl)))) aZ)
   (aJ (bQ aD)),?_⟩
  refine⟨_,rfl,_,rfl,a,_,rfl,.inl hS,_,_,rfl,rfl,_,rfl,?_⟩
  refine dU (fun hc=>?_) (fun hc=>q 0)
  have hk:k<ns.length:=by
   have:=of_decide_eq_true hc
   rw [List.length_map] at this
   omega
  refine⟨_,rfl,_,rfl,a,_,_,_,rfl,rfl,hS,aM (j:=k) (v:=V.int ns[k]) (by rw [List.getElem?_map,List.getElem?_eq_getElem hk];rfl),q _⟩
theorem gH:aR ["_law_cell","_law_many","_law_found","_law_rest","_law_number","_law_k"] ["_law_cell","_law_many"] (aH mZ):=⟨rfl,rfl,rfl,by decide +kernel,rfl,by decide +kernel,by decide +kernel⟩
theorem AdI {f:Addr} {fd:FuncData} (F:Fun K "_law_draws" "_law_draws" mZ f fd) (G:Gb mg):aK P w K mg base CX0 1 f fd ["_law_cell","_law_many"] jD:=by
 refine F.ok gH (fun vs H Q E h=>?_) (fun cdv A outer s H vs Q E hr h=>?_)
 ·obtain⟨c,m,rfl,_⟩:=h
  rfl
 ·obtain⟨c,m,rfl,hm,q⟩:=h
  refine⟨_,aF (bU (i:=2) gH.nd rfl (Or.inl rfl) (dG aE))
   (aF (bU (i:=3) gH.nd rfl (Or.inl rfl) aD)
   (aF (cK (bZ op_ge (pv 0) (aS fE aD aD) (cA _)) (aJ (bU (i:=3) gH.nd rfl (Or.inl rfl) (aS gC (pv 0) (aS fE aD aD)))) aZ)
   (aF (qF PassesOwn.never (PW.pt (nA (bZ op_gt (pv 3) aD (cA _)) (jJ (bZ eU (aV cD (by rfl) G.len PySem.boot_len (aA (pv 2) aE)) (pv 1) (cA _)))))
    (aF (cU (oC PySem.F.plainAttrs_list PySem.F.slot_list_append PySem.F.type_list_append dN (pv 2) (aA (aS dH (pv 3) (aS fE aD aD)) aE)))
    (aJ (bU (i:=3) gH.nd rfl (Or.inl rfl) (aS vP (pv 3) (aS fE aD aD))))))
   (aF (bU (i:=4) gH.nd rfl (Or.inl rfl) (aS cQ (aS dH (pv 0) (aS cQ (aS fE aD aD) aD)) aD))
   (aF (eG PassesOwn.never rfl (iC rfl G.range (aA (aS cQ (pv 1) aD) aE)) (bX (i:=5) gH.nd rfl (Or.inl rfl))
    (aF (bU (i:=4) gH.nd rfl (Or.inl rfl) (aS dH (aS cQ (aS cQ (aS iW (pv 4) (pv 4)) (aS iW aD (pv 4))) (pv 5)) (aS cQ (aS fE aD aD) aD)))
    (aJ (cK (bZ op_gt (pv 5) aD (cA _))
     (aJ (cU (oC PySem.F.plainAttrs_list PySem.F.slot_list_append PySem.F.type_list_append dN (pv 2) (aA (aS dH (aS iW (pv 4) (aS cQ (aS vP (pv 4) aD) aD)) (aS cQ (aS fE aD aD) aD)) aE)))) aZ))))
   (aJ (bQ (qI yK (pv 2) po_none (lD (pv 1)))))))))),?_⟩
  refine⟨by show 0≤sizeLine;exact Nat.zero_le _,fun l hl=>?_⟩
  have pw:CPow 10 30:=⟨by decide,by decide,by decide⟩
  have pw15:CPow 10 15:=⟨by decide,by decide,by decide⟩
  have pw18:CPow 10 18:=⟨by decide,by decide,by decide⟩
  have pos18:(0:Int)<10 ^ (18:Int).toNat+9:=by decide
  have val18:(10:Int) ^ (18:Int).toNat+9=rC:=by decide
  have val15:(10:Int) ^ (15:Int).toNat=1000000000000000:=by decide
  have dB:rC=1000000000000000009:=by decide
  have sameL:∀{H2:Hp} {o:HO},aL H H2→aL H (upd H2 l o):=fun {H2 o} e b u z=>by
   rw [aC (aG z hl)]
   exact e b u z
  have sz:∀{n:Nat},n≤1000→n<sizeLine:=fun h=>sF h
  refine⟨_,rfl,_,_,rfl,rfl,pw,_,_,rfl,rfl,_,rfl,?_⟩
  have h30:(10:Int) ^ (30:Int).toNat=1000000000000000000000000000000:=by decide
  have w0:(0:Int)≤0:=Int.le_refl 0
  refine dU (fun hc=>⟨_,rfl,_,_,rfl,rfl,pw,_,_,rfl,rfl,?_⟩) (fun hc=>?_)
  have w1:(0:Int)≤c-10 ^ (30:Int).toNat:=by
   have:=of_decide_eq_true hc
   omega
  all_goals
   refine pH (fun σ H2=>∃(ys:List Int) (r:Int),σ=[some (.int c),some (.int m),some (.ref l),some (.int r),none,none]∧H2 l=some (.lst (ys.map V.int))∧aL H H2∧ys.length≤m∧(∀x ∈ ys,0≤x∧x<rC)∧0≤r)
    (fun σ H2=>match H2 l with|some (.lst zs)=>m-zs.length|_=>0) ⟨[],_,rfl,aB,aI hl,Nat.zero_le _,(fun x hx=>absurd hx (by simp)),by first|exact w1|exact w0⟩ ?_ ?_
   ·rintro σ H2 ⟨ys,r,rfl,hL,hs,hy,hb,hr0⟩
    refine⟨_,rfl,_,_,rfl,rfl,_,rfl,?_⟩
    refine dU (fun h1=>?_) (fun h1=>dS ?_)
    refine⟨_,rfl,l,_,rfl,.inl (SqL.of hL),_,rfl,_,_,rfl,rfl,_,rfl,?_⟩
    refine dU (fun h2=>?_) (fun h2=>?_)
    ·have hlt:ys.length<m:=by
      have:=of_decide_eq_true h2
      rw [List.length_map] at this
      omega
     refine⟨_,rfl,.inl ⟨rfl,_,SqL.of hL⟩,_,rfl,_,_,rfl,rfl,pw15,_,_,rfl,rfl,(by show (0:Int)<_;rw [val15];decide),l,_,_,rfl,rfl,hL,(by rw [List.length_map];exact sz (by omega)),?_⟩
     refine⟨_,rfl,_,_,rfl,rfl,pw15,_,_,rfl,rfl,⟨by rw [val15];decide,by rw [val15];decide⟩,?_⟩
     refine⟨⟨ys++[r % 10 ^ (15:Int).toNat],_,rfl,by rw [aB,List.map_append];rfl,sameL hs,by rw [List.length_append];exact hlt,fun x hx=>?_,?_⟩,?_⟩
     ·rcases List.mem_append.mp hx with hx|hx
      ·exact hb x hx
      ·have:x=r % 10 ^ (15:Int).toNat:=by simpa using hx
       rw [this,val15,dB]
       omega
     ·rw [val15]
      omega
     ·show (match (upd H2 l _) l with|some (.lst zs)=>m-zs.length|_=>0)<(match H2 l with|some (.lst zs)=>m-zs.length|_=>0)
      rw [aB,hL]
      show m-(List.map V.int ys++[V.int (r % 10 ^ (15:Int).toNat)]).length<m-(List.map V.int ys).length
      rw [List.length_append,List.length_map]
      show m-(ys.length+1)<m-ys.length
      omega
    all_goals
     refine⟨_,rfl,_,_,rfl,rfl,pw18,_,_,rfl,rfl,_,_,rfl,rfl,pos18,_,_,rfl,rfl,?_⟩
     refine⟨_,rfl,_,_,rfl,rfl,(m:Int)+3,rfl,by omega,by omega,iE (lo:=0) (n:=((m:Int)+3).toNat) (fun i σ H3=>∃(zs:List Int) (num:Int) (v:Option V) (r:Int),σ=[some (.int c),some (.int m),some (.ref l),some (.int r),some (.int num),v]∧H3 l=some (.lst (zs.map V.int))∧aL H H3∧zs.length≤20+i∧i≤zs.length+3∧(∀x ∈ zs,0≤x∧x<rC)∧0≤num∧num<rC+48271)
      ⟨ys,_,none,_,rfl,hL,hs,by omega,by omega,hb,by rw [val18,dB];omega,by rw [val18,dB];omega⟩ ?_ ?_⟩
     ·rintro i σ H3 hi ⟨zs,num,v,r2,rfl,hL3,hs3,hz1,hz2,hb3,hn0,hn1⟩
      have cm:∀z:Int,CMul num z:=fun z=>.inl ⟨by rw [dB] at hn1;omega,by rw [dB] at hn1;omega⟩
      refine⟨_,rfl,_,rfl,_,_,rfl,rfl,cm _,_,rfl,_,_,rfl,rfl,.inl ⟨by decide,by decide⟩,_,_,rfl,rfl,_,rfl,_,_,rfl,rfl,_,_,rfl,rfl,pw18,_,_,rfl,rfl,_,_,rfl,rfl,pos18,?_⟩
      have nn:∀z:Int,0≤z % (10 ^ (18:Int).toNat+9)∧z % (10 ^ (18:Int).toNat+9)<rC:=fun z=>by
       rw [val18,dB]
       omega
      refine⟨_,rfl,_,_,rfl,rfl,_,rfl,?_⟩
      have cm2:∀z y:Int,CMul (z % (10 ^ (18:Int).toNat+9)) y:=fun z y=>.inl ⟨by have:=(nn z).1;omega,by have:=(nn z).2;rw [dB] at this;omega⟩
      refine dU (fun h3=>?_) (fun h3=>?_)
      ·refine⟨_,rfl,.inl ⟨rfl,_,SqL.of hL3⟩,_,rfl,_,rfl,_,_,rfl,rfl,⟨by decide,by decide⟩,_,_,rfl,rfl,_,_,rfl,rfl,cm2 _ _,_,_,rfl,rfl,pw18,_,_,rfl,rfl,_,_,rfl,rfl,pos18,l,_,_,rfl,rfl,hL3,(by rw [List.length_map];exact sz (by omega)),?_⟩
       refine⟨zs++[_],_,_,_,rfl,by rw [aB,List.map_append];rfl,sameL hs3,by rw [List.length_append];show zs.length+1≤_;omega,by rw [List.length_append];show _≤zs.length+1+3;omega,fun x hx=>?_,(nn _).1,by have:=(nn ((num * num+48271 * num+(0+(i:Int))))).2;omega⟩
       rcases List.mem_append.mp hx with hx|hx
       ·exact hb3 x hx
       ·have:=List.mem_singleton.mp hx
        rw [this]
        exact nn _
      ·have hik:¬ (2:Int)<0+(i:Int):=by simpa using h3
       exact⟨zs,_,_,_,rfl,hL3,hs3,by omega,by omega,hb3,(nn _).1,by have:=(nn ((num * num+48271 * num+(0+(i:Int))))).2;omega⟩
     ·rintro σ H3 ⟨zs,num,v,r2,rfl,hL3,hs3,hz1,hz2,hb3,hn0,hn1⟩
      refine⟨_,rfl,_,rfl,_,rfl,l,_,rfl,SqL.of hL3,fun p hp=>?_⟩
      have hzm:m≤zs.length:=by omega
      refine q p (zs.take m) _ (fun b o z=>by rw [aC (aG (hs3 b o z) hp)];exact hs3 b o z) (by rw [List.length_take];omega) (fun x hx=>hb3 x (List.mem_of_mem_take hx)) ?_
      rw [aB]
      have:nV (zs.map V.int) none (some (m:Int))=(zs.take m).map V.int:=by
       unfold nV
       rw [HT.sIx_none,HT.sIx_nat,List.length_map,List.drop_zero,List.map_take,Nat.min_eq_left hzm,Nat.sub_zero]
      rw [this]
   ·rintro σ H2 Q1 Q2 hq ⟨v,e1,i,j,e2,e3,k,e4,h⟩
    refine⟨v,e1,i,j,e2,e3,k,e4,?_⟩
    cases k with
    | false=>exact dS (hq _ _ (by simpa using h))
    | true=>
     rw [if_pos rfl] at h
     obtain⟨v2,f1,p,ys,f2,f3,v3,g1,i2,j2,g2,g3,k2,g4,h⟩:=h
     exact eL ⟨v2,f1,p,ys,f2,f3,v3,g1,i2,j2,g2,g3,k2,g4,hq _ _ h⟩
end
theorem gF.same {H H':Hp} {v:V} {p:Int × Int} (e:aL H H') (h:gF H v p):gF H' v p:=by
 obtain⟨b,z,q⟩:=h
 exact⟨b,z,e _ _ q⟩
structure rJ (ps:List (Int × Int)):Prop where
 lt:∀(k:Nat) (l h:Int),ps[k]?=some (l,h)→l<h
 up:∀(k:Nat) (l h l' h':Int),ps[k]?=some (l,h)→ps[k+1]?=some (l',h')→h≤l'
 lo:∀(k:Nat) (l h:Int),ps[k]?=some (l,h)→-1000000000000000000<l∧h<1000000000000000000∧h-l≤30
 few:ps.length≤4
def uW (H:Hp) (p:Addr) (ps:List (Int × Int)):Prop:=∃xs,H p=some (.tup xs)∧Paired (gF H) xs ps∧rJ ps
theorem uW.same {H H':Hp} {p:Addr} {ps:List (Int × Int)} (e:aL H H') (h:uW H p ps):uW H' p ps:=by
 obtain⟨xs,h1,h2,h3⟩:=h
 exact⟨xs,e _ _ h1,bV (fun _ _=>gF.same e) h2,h3⟩
def wW:Sp:=fun vs H Q _=>∃(c:Int),vs=[.int c]∧∀(p:Addr) (ps:List (Int × Int)) (H':Hp),aL H H'→uW H' p ps→Q (.ref p) H'
theorem pick {ns:List Int} {i:Int} (h0:0≤i) (h1:i<ns.length):∃z,z ∈ ns∧atI (ns.map V.int) i=some (.int z):=by
 obtain⟨k,rfl⟩:=Int.eq_ofNat_of_zero_le h0
 have hk:k<ns.length:=by omega
 exact⟨ns[k],List.getElem_mem hk,aM (by rw [List.getElem?_map,List.getElem?_eq_getElem hk];rfl)⟩
theorem vL {ns:List Int} {k:Nat} (hk:k<ns.length):atI (ns.map V.int) (k:Int)=some (.int ns[k]):=aM (by rw [List.getElem?_map,List.getElem?_eq_getElem hk];rfl)
theorem rJ.nil:rJ []:=⟨fun k l h z=>by simp at z,fun k l h l' h' z=>by simp at z,fun k l h z=>by simp at z,Nat.zero_le _⟩
theorem rJ.snoc {ps:List (Int × Int)} {low l h:Int} (r:rJ ps) (hlast:∀(k:Nat) (a b:Int),ps[k]?=some (a,b)→b≤low) (h1:low≤l) (h2:l<h) (h3:-1000000000000000000<l∧h<1000000000000000000∧h-l≤30) (h4:ps.length<4):rJ (ps++[(l,h)]):=by
 have at_:∀(k:Nat) (a b:Int),(ps++[(l,h)])[k]?=some (a,b)→ps[k]?=some (a,b)∨(k=ps.length∧a=l∧b=h):=fun k a b z=>by
  rcases Nat.lt_trichotomy k ps.length with c|c|c
  ·exact .inl (by rwa [List.getElem?_append_left c] at z)
  ·subst c
   simp at z
   exact .inr ⟨rfl,z.1.symm,z.2.symm⟩
  ·rw [List.getElem?_eq_none (by rw [List.length_append,List.length_singleton];omega)] at z
   cases z
 refine⟨fun k a b z=>?_,fun k a b a' b' z z'=>?_,fun k a b z=>?_,by rw [List.length_append,List.length_singleton];omega⟩
 ·rcases at_ k a b z with z|⟨_,rfl,rfl⟩
  ·exact r.lt k a b z
  ·exact h2
 ·rcases at_ (k+1) a' b' z' with z2|⟨e,rfl,rfl⟩
  ·have hk:k+1<ps.length:=(List.getElem?_eq_some_iff.mp z2).1
   rcases at_ k a b z with z3|⟨e,_,_⟩
   ·exact r.up k a b a' b' z3 z2
   ·omega
  ·rcases at_ k a b z with z3|⟨e',_,_⟩
   ·have:=hlast k a b z3
    omega
   ·omega
 ·rcases at_ k a b z with z|⟨_,rfl,rfl⟩
  ·exact r.lo k a b z
  ·exact h3
section
variable {P:Program} {w:World} {K:PySem.W.Frag} {mg:Str→Option Value} {base:Heap}
theorem iS:aR ["_law_cell","_law_xs","_law_low","_law_found","_law_k","_law_high"] ["_law_cell"] (aH sL):=⟨rfl,rfl,rfl,by decide +kernel,rfl,by decide +kernel,by decide +kernel⟩
theorem ok_make {f fD:Addr} {fd fdD:FuncData} (F:Fun K "_law_work" "_law_work" sL f fd) (G:Gb mg) (GD:aK P w K mg base CX0 1 fD fdD ["_law_cell","_law_many"] jD) (kp:keepIn K (.ref fD)=true) (bD:aP K fdD ["_law_cell","_law_many"] []) (mD:mg "_law_draws"=some (.ref fD)):
  aK P w K mg base CX0 2 f fd ["_law_cell"] wW:=by
 refine F.ok iS (fun vs H Q E h=>?_) (fun cdv A outer s H vs Q E hr h=>?_)
 ·obtain⟨c,rfl,_⟩:=h
  rfl
 ·obtain⟨c,rfl,q⟩:=h
  refine⟨_,aF (bU (i:=1) iS.nd rfl (Or.inl rfl) (bJ GD hr rfl mD kp bD .nil aY (aA (pv 0) (aA aD aE))))
   (aF (bU (i:=2) iS.nd rfl (Or.inl rfl) (aX bE (dG (aA aD (aA (oB iQ aD) (aA aD (aA (aS fE aD aD) (aA (aS gC aD (aS fE aD aD)) (aA (oB iQ aD) aE)))))))
    (aS dH (aX bE (pv 1) aD (fun _ _=>rfl)) aD) (fun _ _=>rfl)))
   (aF (bU (i:=3) iS.nd rfl (Or.inl rfl) (dG aE))
   (aF (eG PassesOwn.never rfl (iC rfl G.range (aA (aX bE (dG (aA aD (aA aD (aA aD (aA aD (aA aD (aA aD aE)))))))
     (aS dH (aX bE (pv 1) aD (fun _ _=>rfl)) aD) (fun _ _=>rfl)) aE)) (bX (i:=4) iS.nd rfl (Or.inl rfl))
    (aF (bU (i:=2) iS.nd rfl (Or.inl rfl) (aS cQ (pv 2) (aX bE (dG (aA aD (aA aD (aA aD (aA aD aE))))) (aS dH (aX bE (pv 1) (aS cQ aD (aS iW aD (pv 4))) (fun _ _=>rfl)) aD) (fun _ _=>rfl))))
    (aF (bU (i:=5) iS.nd rfl (Or.inl rfl) (aS cQ (aS cQ (pv 2) aD) (aS dH (aX bE (pv 1) (aS cQ aD (aS iW aD (pv 4))) (fun _ _=>rfl))
     (aX bE (dG (aA aD (aA aD (aA aD (aA aD aE))))) (aS dH (aS oZ (aX bE (pv 1) (aS cQ aD (aS iW aD (pv 4))) (fun _ _=>rfl)) aD) aD) (fun _ _=>rfl)))))
    (aF (cU (oC PySem.F.plainAttrs_list PySem.F.slot_list_append PySem.F.type_list_append dN (pv 3) (aA (cF (aA (pv 2) (aA (pv 5) aE))) aE)))
    (aJ (bU (i:=2) iS.nd rfl (Or.inl rfl) (pv 5)))))))
   (aJ (bQ (dJ dA (by rfl) G.tuple fJ (aA (pv 3) aE))))))),?_⟩
  refine⟨_,rfl,c,10,rfl,by decide,fun lx xs H1 s1 hx hxb hX=>?_⟩
  have ax:∀{H':Hp},aL H1 H'→SqL K H' lx (xs.map V.int):=fun e=>SqL.of (e _ _ hX)
  have sz6:(6:Nat)≤sizeLine:=by decide
  have sz4:(4:Nat)≤sizeLine:=by decide
  have pw17:CPow 10 17:=⟨by decide,by decide,by decide⟩
  have v17:(10:Int) ^ (17:Int).toNat=100000000000000000:=by decide
  refine⟨_,rfl,_,_,rfl,rfl,pw17,_,_,rfl,rfl,pw17,_,_,rfl,rfl,_,rfl,sz6,fun l1 h1=>?_⟩
  have s2:aL H1 (upd H1 l1 (.lst [.int 0,.int (-7),.int 5,.int (10 ^ (17:Int).toNat),.int (3-10 ^ (17:Int).toNat),.int (-1)])):=aI h1
  obtain⟨z0,m0,e0⟩:=pick (ns:=[0,-7,5,10 ^ (17:Int).toNat,3-10 ^ (17:Int).toNat,-1]) (i:=xs[0] % 6) (by omega) (by show _<((6:Nat):Int);omega)
  refine⟨_,rfl,lx,_,_,_,rfl,rfl,ax s2,vL (k:=0) (by omega),_,_,rfl,rfl,(by show (0:Int)<6;decide),l1,_,_,_,rfl,rfl,SqL.of aB,e0,?_⟩
  have b0:-100000000000000000≤z0∧z0≤100000000000000000:=by
   rw [v17] at m0
   simp only [List.mem_cons,List.not_mem_nil,or_false] at m0
   omega
  generalize hH2:upd H1 l1 (.lst [.int 0,.int (-7),.int 5,.int (10 ^ (17:Int).toNat),.int (3-10 ^ (17:Int).toNat),.int (-1)])=H2 at s2 ⊢
  refine⟨Nat.zero_le _,fun lf hf=>?_⟩
  have s3:aL H2 (upd H2 lf (.lst [])):=aI hf
  have nfx:lx≠lf:=aG (s2 _ _ hX) hf
  have H1f:H1 lf=none:=s2.free hf
  have Hf:H lf=none:=s1.free H1f
  refine⟨sz6,fun l2 h2=>?_⟩
  obtain⟨z1,m1,e1⟩:=pick (ns:=[1,2,3,4,1,0]) (i:=xs[1] % 6) (by omega) (by show _<((6:Nat):Int);omega)
  have s4:aL (upd H2 lf (.lst [])) (upd (upd H2 lf (.lst [])) l2 (.lst [.int 1,.int 2,.int 3,.int 4,.int 1,.int 0])):=aI h2
  have b1:0≤z1∧z1≤4:=by
   simp only [List.mem_cons,List.not_mem_nil,or_false] at m1
   omega
  refine⟨_,rfl,lx,_,_,_,rfl,rfl,ax (s2.trans (s3.trans s4)),vL (k:=1) (by omega),_,_,rfl,rfl,(by show (0:Int)<6;decide),l2,_,_,_,rfl,rfl,SqL.of aB,e1,z1,rfl,by omega,by omega,?_⟩
  refine iE (lo:=0) (n:=z1.toNat) (fun i σ H5=>∃(low:Int) (vs:List V) (ps:List (Int × Int)) (u v:Option V),σ=[some (.int c),some (.ref lx),some (.int low),some (.ref lf),u,v]∧H5 lx=some (.lst (xs.map V.int))∧aL H H5∧H5 lf=some (.lst vs)∧Paired (gF H5) vs ps∧rJ ps∧ps.length=i ∧
   (∀(k:Nat) (a b:Int),ps[k]?=some (a,b)→b≤low)∧-100000000000000000≤low∧low≤100000000000000000+40 * (i:Int)) ⟨z0,[],[],none,none,rfl,s4 _ _ (s3 _ _ (s2 _ _ hX)),s1.trans (s2.trans (s3.trans s4)),s4 _ _ aB,.nil,rJ.nil,rfl,(fun k a b z=>by simp at z),b0.1,by omega⟩ ?_ ?_
  ·rintro i σ H5 hi ⟨low,vs,ps,u,v,rfl,hX5,s5,hF5,pr,rise,hlen,hlast,bl1,bl2⟩
   have hi4:i<4:=by omega
   refine⟨_,rfl,sz4,fun l3 h3=>?_⟩
   have t1:aL H5 (upd H5 l3 (.lst [.int 0,.int 0,.int 1,.int 3])):=aI h3
   obtain⟨z2,m2,e2⟩:=pick (ns:=[0,0,1,3]) (i:=xs[2+2 * i] % 4) (by omega) (by show _<((4:Nat):Int);omega)
   have b2:0≤z2∧z2≤3:=by
    simp only [List.mem_cons,List.not_mem_nil,or_false] at m2
    omega
   have i2:(2:Int)+2 * (0+(i:Int))=((2+2 * i:Nat):Int):=by omega
   have i3:(3:Int)+2 * (0+(i:Int))=((3+2 * i:Nat):Int):=by omega
   have cm:∀z:Int,CMul 2 z:=fun z=>.inl ⟨by decide,by decide⟩
   refine⟨_,rfl,_,rfl,_,_,rfl,rfl,cm _,_,_,rfl,rfl,lx,_,_,_,rfl,rfl,SqL.of (t1 _ _ hX5),(by rw [i2];exact vL (k:=2+2 * i) (by omega)),_,_,rfl,rfl,(by show (0:Int)<4;decide),l3,_,_,_,rfl,rfl,SqL.of aB,e2,_,_,rfl,rfl,?_⟩
   generalize hH6:upd H5 l3 (.lst [.int 0,.int 0,.int 1,.int 3])=H6 at t1 ⊢
   refine⟨_,rfl,_,_,rfl,rfl,_,rfl,_,rfl,_,_,rfl,rfl,cm _,_,_,rfl,rfl,lx,_,_,_,rfl,rfl,SqL.of (t1 _ _ hX5),(by rw [i3];exact vL (k:=3+2 * i) (by omega)),sz4,fun l4 h4=>?_⟩
   have t2:aL H6 (upd H6 l4 (.lst [.int 3,.int 9,.int 9,.int 30])):=aI h4
   obtain⟨z3,m3,e3⟩:=pick (ns:=[3,9,9,30]) (i:=xs[2+2 * i] / 4 % 4) (by omega) (by show _<((4:Nat):Int);omega)
   have b3:3≤z3∧z3≤30:=by
    simp only [List.mem_cons,List.not_mem_nil,or_false] at m3
    omega
   refine⟨_,rfl,_,rfl,_,_,rfl,rfl,cm _,_,_,rfl,rfl,lx,_,_,_,rfl,rfl,SqL.of (t2 _ _ (t1 _ _ hX5)),(by rw [i2];exact vL (k:=2+2 * i) (by omega)),_,_,rfl,rfl,⟨by decide,by decide⟩,_,_,rfl,rfl,(by show (0:Int)<4;decide),l4,_,_,_,rfl,rfl,SqL.of aB,e3,_,_,rfl,rfl,(by show (0:Int)<z3;omega),_,_,rfl,rfl,?_⟩
   generalize hH7:upd H6 l4 (.lst [.int 3,.int 9,.int 9,.int 30])=H7 at t2 ⊢
   have t12:=t1.trans t2
   have r0:0≤xs[3+2 * i] % z3∧xs[3+2 * i] % z3<30:=⟨Int.emod_nonneg _ (by omega),by have:=Int.emod_lt_of_pos xs[3+2 * i] (show (0:Int)<z3 by omega);omega⟩
   generalize xs[3+2 * i] % z3=r at r0 ⊢
   refine⟨_,rfl,.inl ⟨rfl,_,SqL.of (t12 _ _ hF5)⟩,_,rfl,_,rfl,by show 2≤sizeLine;decide,fun t ht=>?_⟩
   have t3:aL H7 (upd H7 t (.tup [.int (low+z2),.int (low+z2+1+r)])):=aI ht
   have t13:=t12.trans t3
   have lenv:vs.length≤4:=by rw [pr.length];exact rise.few
   refine⟨lf,_,_,rfl,rfl,t13 _ _ hF5,sF (by omega),?_⟩
   refine⟨_,rfl,?_⟩
   have keep:∀(b:Addr) (ys:List V),(upd H7 t (.tup [.int (low+z2),.int (low+z2+1+r)])) b=some (.tup ys)→(upd (upd H7 t (.tup [.int (low+z2),.int (low+z2+1+r)])) lf (.lst (vs++[.ref t]))) b=some (.tup ys):=fun b ys z=>by
    rw [aC (aW z (t13 _ _ hF5) (by intro w;cases w))]
    exact z
   refine⟨low+z2+1+r,vs++[.ref t],ps++[(low+z2,low+z2+1+r)],_,_,rfl,?_,fun b o z=>?_,aB,?_,rise.snoc hlast (by omega) (by omega) ⟨by omega,by omega,by omega⟩ (by omega),?_,fun k a b z=>?_,by omega,by omega⟩
   ·rw [aC nfx]
    exact t13 _ _ hX5
   ·rw [aC (aG z Hf)]
    exact t13 _ _ (s5 b o z)
   ·refine Paired.snoc (bV (fun x p hp=>?_) pr) ⟨t,rfl,keep t _ aB⟩
    obtain⟨b,z,hb⟩:=hp
    exact⟨b,z,keep b _ (t13 _ _ hb)⟩
   ·rw [List.length_append,hlen]
    rfl
   ·rcases Nat.lt_trichotomy k ps.length with cc|cc|cc
    ·rw [List.getElem?_append_left cc] at z
     have:=hlast k a b z
     omega
    ·subst cc
     simp at z
     omega
    ·rw [List.getElem?_eq_none (by rw [List.length_append,List.length_singleton];omega)] at z
     cases z
  ·rintro σ H5 ⟨low,vs,ps,u,v,rfl,hX5,s5,hF5,pr,rise,hlen,hlast,bl1,bl2⟩
   refine⟨_,rfl,lf,vs,rfl,.inl ⟨SqL.of hF5,fun p hp=>?_⟩⟩
   exact q p ps _ (s5.trans (aI hp)) ⟨vs,aB,bV (fun _ _=>gF.same (aI hp)) pr,rise⟩
end
end Ls
namespace L2
open PySem PySem.Spec PyProof.Rows PySem.W
section
variable {X:Cx}
theorem AcM {pos:Pos} {i:Nat} {x:Str} {e:Expr} {te:TE} {pos':Pos} {rest:List Stmt} {u:TS} (hN:X.N.Nodup) (hi:X.N[i]?=some x) (hx:Loc X.env.scope x) (he:PEc X e te) (hr:PSsc X rest u) (hs:swapsWith e (some (.Name x pos')) pos.line X.env=pure false:=by rfl) (hf:X.fn x=true∨X.env.scope.names.lookup x=some .local:=by first|exact .inl rfl|exact .inr rfl|assumption):
  PSsc X (.Assign [.Name x pos'] e pos::rest) (tSeq (tAsg te (dX i)) u):=⟨aF (bU hN hi hx he.h hs hf) hr.h⟩
end
end L2
namespace Ls
open PySem L2 PySem.W
def pU:Sp:=fun vs H Q _=>∃(bl xl:Addr) (a b c:Int) (xs:List Int),vs=[.ref bl,.ref xl]∧H bl=some (.lst [.int a,.int b,.int c])∧H xl=some (.lst (xs.map V.int))∧3≤xs.length∧1≤b ∧
 ∀(r:Addr) (x y z:V) (H':Hp),aL H H'→H' r=some (.lst [x,y,z])→Knd H' x→Knd H' y→Knd H' z→AaA x y z→Q (.ref r) H'
theorem uV {l:List V} {i:Int} (h0:0≤i) (h1:i<l.length):∃v ∈ l,atI l i=some v:=by
 obtain⟨k,rfl⟩:=Int.eq_ofNat_of_zero_le h0
 have hk:k<l.length:=by omega
 exact⟨l[k],List.getElem_mem hk,aM (List.getElem?_eq_getElem hk)⟩
section
variable {P:Program} {w:World} {K:PySem.W.Frag} {mg:Str→Option Value} {base:Heap}
theorem qA:aR ["_law_bounds","_law_xs","_law_odd","_law_at","_law_found"] ["_law_bounds","_law_xs"] (aH eP):=⟨rfl,rfl,rfl,by decide +kernel,rfl,by decide +kernel,by decide +kernel⟩
theorem ok_badB {f:Addr} {fd:FuncData} (F:Fun K "_law_bad_bounds" "_law_bad_bounds" eP f fd) (G:Gb mg):aK P w K mg base CX0 1 f fd ["_law_bounds","_law_xs"] pU:=by
 refine F.ok qA (fun vs H Q E h=>?_) (fun cdv A outer s H vs Q E hr h=>?_)
 ·obtain⟨bl,xl,a,b,c,xs,rfl,_⟩:=h
  rfl
 ·obtain⟨bl,xl,a,b,c,xs,rfl,hbl,hxl,l3,b1,t⟩:=h
  refine⟨_,PSsc.h (AcM (i:=2) qA.nd rfl (Or.inl rfl) (yW (pcc aD (pcc (oB iQ aD) (pcc gN (pcc eZ (pcc eY (pcc (cF (aA aD aE)) (pcc (aS gC aD (aS fE aD aD)) (pcc (dG (aA aD aE)) pcn)))))))))
   ⟨aF (bU (i:=3) qA.nd rfl (Or.inl rfl) (aS dH (aX bE (pv 1) aD (fun _ _=>rfl)) aD))
   (aF (bU (i:=4) qA.nd rfl (Or.inl rfl) (dJ lM (by rfl) G.list uU (aA (pv 0) aE)))
   (aF (xH (aX bE (pv 2) (aS dH (aX bE (pv 1) aD (fun _ _=>rfl)) (aV cD (by rfl) G.len PySem.boot_len (aA (pv 2) aE))) (fun _ _=>rfl)) (xJ (pv 4) (pv 3) pY))
   (aF (cK (bZ vQ (aS dH (aX bE (pv 1) aD (fun _ _=>rfl)) aD) aD (cA _)) (aJ (bU (i:=4) qA.nd rfl (Or.inl rfl) (dG (aA (aX bE (pv 0) aD (fun _ _=>rfl)) (aA (aS cQ (aX bE (pv 0) aD (fun _ _=>rfl)) aD) (aA (aX bE (pv 0) aD (fun _ _=>rfl)) aE)))))) aZ)
   (aF (cK (bZ vQ (aS dH (aX bE (pv 1) aD (fun _ _=>rfl)) aD) aD (cA _)) (aJ (xH (aX bE (pv 2) (aS dH (aS oZ (aX bE (pv 1) aD (fun _ _=>rfl)) aD) (aV cD (by rfl) G.len PySem.boot_len (aA (pv 2) aE))) (fun _ _=>rfl)) (xJ (pv 4) (aS dH (aS cQ (pv 3) aD) aD) pY))) aZ)
   (aJ (bQ (pv 4)))))))⟩),?_⟩
  have sl:sizeLine=16777216:=sizeLine_eq
  have pw9:CPow 10 9:=⟨by decide,by decide,by decide⟩
  obtain⟨x0,x1,x2,rest,rfl⟩:∃x0 x1 x2 rest,xs=x0::x1::x2::rest:=by
   match xs,l3 with
   | x0::x1::x2::rest,_=>exact⟨x0,x1,x2,rest,rfl⟩
  refine⟨_,rfl,by show 1≤sizeLine;decide,fun r1 n1=>?_⟩
  have s1:aL H (upd H r1 (.tup [.int 2])):=aI n1
  have e1:(upd H r1 (.tup [.int 2])) r1=some (.tup [.int 2]):=aB
  generalize upd H r1 (.tup [.int 2])=H1 at s1 e1 ⊢
  refine⟨_,_,rfl,rfl,pw9,_,_,rfl,rfl,by show 1≤sizeLine;decide,fun r2 n2=>?_⟩
  have s2:aL H1 (upd H1 r2 (.lst [.int 1])):=aI n2
  have e2:(upd H1 r2 (.lst [.int 1])) r2=some (.lst [.int 1]):=aB
  generalize upd H1 r2 (.lst [.int 1])=H2 at s2 e2 ⊢
  refine⟨by show 8≤sizeLine;decide,fun r3 n3=>?_⟩
  have al0:∀v ∈ [V.int 0,.int (-1),.bl true,.non,.str "3",.ref r1,.int (0-10 ^ (9:Int).toNat),.ref r2],Knd H2 v∧okB v=false:=
   aN ⟨.kn (.int _),rfl⟩ (aN ⟨.kn (.int _),rfl⟩ (aN ⟨.kn (.bl _),rfl⟩ (aN ⟨.kn .non,rfl⟩ (aN ⟨.kn (.str _),rfl⟩ (aN ⟨.tup (s2 _ _ e1),rfl⟩ (aN ⟨.kn (.int _),by decide⟩ (aN ⟨.kn (.lst e2),rfl⟩ cO)))))))
  have s3:aL H2 (upd H2 r3 (.lst [V.int 0,.int (-1),.bl true,.non,.str "3",.ref r1,.int (0-10 ^ (9:Int).toNat),.ref r2])):=aI n3
  have e3:(upd H2 r3 (.lst [V.int 0,.int (-1),.bl true,.non,.str "3",.ref r1,.int (0-10 ^ (9:Int).toNat),.ref r2])) r3=some (.lst [V.int 0,.int (-1),.bl true,.non,.str "3",.ref r1,.int (0-10 ^ (9:Int).toNat),.ref r2]):=aB
  have t3:=s1.trans (s2.trans s3)
  have al:∀v ∈ [V.int 0,.int (-1),.bl true,.non,.str "3",.ref r1,.int (0-10 ^ (9:Int).toNat),.ref r2],Knd (upd H2 r3 (.lst [V.int 0,.int (-1),.bl true,.non,.str "3",.ref r1,.int (0-10 ^ (9:Int).toNat),.ref r2])) v∧okB v=false:=fun v hv=>⟨(al0 v hv).1.same s3,(al0 v hv).2⟩
  have l8:[V.int 0,.int (-1),.bl true,.non,.str "3",.ref r1,.int (0-10 ^ (9:Int).toNat),.ref r2].length=8:=rfl
  change tSeq _ _ _ _ (upd H2 r3 (.lst [V.int 0,.int (-1),.bl true,.non,.str "3",.ref r1,.int (0-10 ^ (9:Int).toNat),.ref r2]))
  clear al0
  generalize upd H2 r3 (.lst [V.int 0,.int (-1),.bl true,.non,.str "3",.ref r1,.int (0-10 ^ (9:Int).toNat),.ref r2])=H3 at s3 e3 t3 al ⊢
  generalize [V.int 0,.int (-1),.bl true,.non,.str "3",.ref r1,.int (0-10 ^ (9:Int).toNat),.ref r2]=odd at e3 al l8
  have hx3:=t3 _ _ hxl
  have hb3:=t3 _ _ hbl
  refine⟨_,rfl,xl,_,_,_,rfl,rfl,SqL.of hx3,aM (j:=0) rfl,_,_,rfl,rfl,(by show (0:Int)<3;decide),?_⟩
  refine⟨_,rfl,bl,_,rfl,.inl (SqL.of hb3),fun fl nfl=>?_⟩
  have s4:aL H3 (upd H3 fl (.lst [.int a,.int b,.int c])):=aI nfl
  have e4:(upd H3 fl (.lst [.int a,.int b,.int c])) fl=some (.lst [.int a,.int b,.int c]):=aB
  generalize upd H3 fl (.lst [.int a,.int b,.int c])=H4 at s4 e4 ⊢
  have m0:=Int.emod_nonneg x0 (show (3:Int)≠0 by decide)
  have m1:=Int.emod_lt_of_pos x0 (show (0:Int)<3 by decide)
  obtain⟨v,hv,ev⟩:=uV (l:=odd) (i:=x1 % ((odd.length:Nat):Int)) (Int.emod_nonneg _ (by omega)) (Int.emod_lt_of_pos _ (by omega))
  obtain⟨kv,bv⟩:=al v hv
  obtain⟨v',hv',ev'⟩:=uV (l:=odd) (i:=x2 / 4 % ((odd.length:Nat):Int)) (Int.emod_nonneg _ (by omega)) (Int.emod_lt_of_pos _ (by omega))
  obtain⟨kv',bv'⟩:=al v' hv'
  have t4:=t3.trans s4
  have hx4:=s4 _ _ hx3
  have hb4:=s4 _ _ hb3
  have ho4:=s4 _ _ e3
  have nx:xl≠fl:=aG hx3 nfl
  have nb:bl≠fl:=aG hb3 nfl
  have no:r3≠fl:=aG e3 nfl
  have nH:H fl=none:=t3.free nfl
  have kp:∀(u:HO) (w':V),Knd H3 w'→Knd (upd H4 fl u) w':=fun u w' k=>k.same fun b' o' e=>by rw [aC (aG e nfl)];exact s4 _ _ e
  have sm:∀u,aL H (upd H4 fl u):=fun u b' o' e=>by rw [aC (aG e nH)];exact t4 _ _ e
  obtain h0|h0|h0:x0 % 3=0∨x0 % 3=1∨x0 % 3=2:=by omega
  ·refine⟨_,rfl,_,rfl,xl,_,_,_,rfl,rfl,SqL.of hx4,aM (j:=1) rfl,_,rfl,r3,_,rfl,.inl (SqL.of ho4),_,_,rfl,rfl,(by show (0:Int)<(odd.length:Nat);omega),r3,_,_,_,rfl,rfl,SqL.of ho4,ev,_,rfl,_,rfl,fl,_,_,0,rfl,rfl,e4,(by rw [h0];rfl),?_⟩
   refine⟨_,rfl,xl,_,_,_,rfl,rfl,SqL.of (by rw [aC nx];exact hx4),aM (j:=2) rfl,_,_,rfl,rfl,(by show (0:Int)<4;decide),rfl,_,rfl,?_⟩
   refine dU (fun q0=>?_) (fun q0=>?_)
   ·have q0:x2 % 4=0:=by simpa using q0
    refine⟨_,rfl,bl,_,_,_,rfl,rfl,SqL.of (by rw [aC nb];exact hb4),aM (j:=0) rfl,_,rfl,bl,_,_,_,rfl,rfl,SqL.of (by rw [aC nb];exact hb4),aM (j:=1) rfl,_,_,rfl,rfl,_,rfl,bl,_,_,_,rfl,rfl,SqL.of (by rw [aC nb];exact hb4),aM (j:=1) rfl,by show 3≤sizeLine;decide,fun g ng=>?_⟩
    refine⟨_,rfl,xl,_,_,_,rfl,rfl,SqL.of (aI ng _ _ (by rw [aC nx];exact hx4)),aM (j:=2) rfl,_,_,rfl,rfl,(by show (0:Int)<4;decide),rfl,_,rfl,?_⟩
    refine dU (fun q1=>absurd q1 (by simp;omega)) fun _=>?_
    exact⟨_,rfl,t g _ _ _ _ ((sm _).trans (aI ng)) aB (.kn (.int _)) (.kn (.int _)) (.kn (.int _)) (.inr (.inr (.inr ⟨_,_,rfl,rfl,by omega⟩)))⟩
   ·refine⟨_,rfl,xl,_,_,_,rfl,rfl,SqL.of (by rw [aC nx];exact hx4),aM (j:=2) rfl,_,_,rfl,rfl,(by show (0:Int)<4;decide),rfl,_,rfl,?_⟩
    refine dU (fun q1=>?_) (fun q1=>?_)
    ·refine⟨_,rfl,_,rfl,xl,_,_,_,rfl,rfl,SqL.of (by rw [aC nx];exact hx4),aM (j:=2) rfl,_,_,rfl,rfl,⟨by decide,by decide⟩,_,rfl,r3,_,rfl,.inl (SqL.of (by rw [aC no];exact ho4)),_,_,rfl,rfl,(by show (0:Int)<(odd.length:Nat);omega),r3,_,_,_,rfl,rfl,SqL.of (by rw [aC no];exact ho4),ev',_,rfl,_,rfl,_,_,rfl,rfl,_,_,rfl,rfl,(by show (0:Int)<3;decide),fl,_,_,1,rfl,rfl,aB,(by show ixN 3 ((x0 % 3+1) % 3)=_;rw [h0];rfl),?_⟩
     rw [dP]
     exact⟨_,rfl,t fl _ _ _ _ (sm _) aB (kp _ _ kv) (kp _ _ kv') (.kn (.int _)) (.inl bv)⟩
    ·exact⟨_,rfl,t fl _ _ _ _ (sm _) aB (kp _ _ kv) (.kn (.int _)) (.kn (.int _)) (.inl bv)⟩
  ·refine⟨_,rfl,_,rfl,xl,_,_,_,rfl,rfl,SqL.of hx4,aM (j:=1) rfl,_,rfl,r3,_,rfl,.inl (SqL.of ho4),_,_,rfl,rfl,(by show (0:Int)<(odd.length:Nat);omega),r3,_,_,_,rfl,rfl,SqL.of ho4,ev,_,rfl,_,rfl,fl,_,_,1,rfl,rfl,e4,(by rw [h0];rfl),?_⟩
   refine⟨_,rfl,xl,_,_,_,rfl,rfl,SqL.of (by rw [aC nx];exact hx4),aM (j:=2) rfl,_,_,rfl,rfl,(by show (0:Int)<4;decide),rfl,_,rfl,?_⟩
   refine dU (fun q0=>?_) (fun q0=>?_)
   ·have q0:x2 % 4=0:=by simpa using q0
    refine⟨_,rfl,bl,_,_,_,rfl,rfl,SqL.of (by rw [aC nb];exact hb4),aM (j:=0) rfl,_,rfl,bl,_,_,_,rfl,rfl,SqL.of (by rw [aC nb];exact hb4),aM (j:=1) rfl,_,_,rfl,rfl,_,rfl,bl,_,_,_,rfl,rfl,SqL.of (by rw [aC nb];exact hb4),aM (j:=1) rfl,by show 3≤sizeLine;decide,fun g ng=>?_⟩
    refine⟨_,rfl,xl,_,_,_,rfl,rfl,SqL.of (aI ng _ _ (by rw [aC nx];exact hx4)),aM (j:=2) rfl,_,_,rfl,rfl,(by show (0:Int)<4;decide),rfl,_,rfl,?_⟩
    refine dU (fun q1=>absurd q1 (by simp;omega)) fun _=>?_
    exact⟨_,rfl,t g _ _ _ _ ((sm _).trans (aI ng)) aB (.kn (.int _)) (.kn (.int _)) (.kn (.int _)) (.inr (.inr (.inr ⟨_,_,rfl,rfl,by omega⟩)))⟩
   ·refine⟨_,rfl,xl,_,_,_,rfl,rfl,SqL.of (by rw [aC nx];exact hx4),aM (j:=2) rfl,_,_,rfl,rfl,(by show (0:Int)<4;decide),rfl,_,rfl,?_⟩
    refine dU (fun q1=>?_) (fun q1=>?_)
    ·refine⟨_,rfl,_,rfl,xl,_,_,_,rfl,rfl,SqL.of (by rw [aC nx];exact hx4),aM (j:=2) rfl,_,_,rfl,rfl,⟨by decide,by decide⟩,_,rfl,r3,_,rfl,.inl (SqL.of (by rw [aC no];exact ho4)),_,_,rfl,rfl,(by show (0:Int)<(odd.length:Nat);omega),r3,_,_,_,rfl,rfl,SqL.of (by rw [aC no];exact ho4),ev',_,rfl,_,rfl,_,_,rfl,rfl,_,_,rfl,rfl,(by show (0:Int)<3;decide),fl,_,_,2,rfl,rfl,aB,(by show ixN 3 ((x0 % 3+1) % 3)=_;rw [h0];rfl),?_⟩
     rw [dP]
     exact⟨_,rfl,t fl _ _ _ _ (sm _) aB (.kn (.int _)) (kp _ _ kv) (kp _ _ kv') (.inr (.inl bv))⟩
    ·exact⟨_,rfl,t fl _ _ _ _ (sm _) aB (.kn (.int _)) (kp _ _ kv) (.kn (.int _)) (.inr (.inl bv))⟩
  ·refine⟨_,rfl,_,rfl,xl,_,_,_,rfl,rfl,SqL.of hx4,aM (j:=1) rfl,_,rfl,r3,_,rfl,.inl (SqL.of ho4),_,_,rfl,rfl,(by show (0:Int)<(odd.length:Nat);omega),r3,_,_,_,rfl,rfl,SqL.of ho4,ev,_,rfl,_,rfl,fl,_,_,2,rfl,rfl,e4,(by rw [h0];rfl),?_⟩
   refine⟨_,rfl,xl,_,_,_,rfl,rfl,SqL.of (by rw [aC nx];exact hx4),aM (j:=2) rfl,_,_,rfl,rfl,(by show (0:Int)<4;decide),rfl,_,rfl,?_⟩
   refine dU (fun q0=>?_) (fun q0=>?_)
   ·have q0:x2 % 4=0:=by simpa using q0
    refine⟨_,rfl,bl,_,_,_,rfl,rfl,SqL.of (by rw [aC nb];exact hb4),aM (j:=0) rfl,_,rfl,bl,_,_,_,rfl,rfl,SqL.of (by rw [aC nb];exact hb4),aM (j:=1) rfl,_,_,rfl,rfl,_,rfl,bl,_,_,_,rfl,rfl,SqL.of (by rw [aC nb];exact hb4),aM (j:=1) rfl,by show 3≤sizeLine;decide,fun g ng=>?_⟩
    refine⟨_,rfl,xl,_,_,_,rfl,rfl,SqL.of (aI ng _ _ (by rw [aC nx];exact hx4)),aM (j:=2) rfl,_,_,rfl,rfl,(by show (0:Int)<4;decide),rfl,_,rfl,?_⟩
    refine dU (fun q1=>absurd q1 (by simp;omega)) fun _=>?_
    exact⟨_,rfl,t g _ _ _ _ ((sm _).trans (aI ng)) aB (.kn (.int _)) (.kn (.int _)) (.kn (.int _)) (.inr (.inr (.inr ⟨_,_,rfl,rfl,by omega⟩)))⟩
   ·refine⟨_,rfl,xl,_,_,_,rfl,rfl,SqL.of (by rw [aC nx];exact hx4),aM (j:=2) rfl,_,_,rfl,rfl,(by show (0:Int)<4;decide),rfl,_,rfl,?_⟩
    refine dU (fun q1=>?_) (fun q1=>?_)
    ·refine⟨_,rfl,_,rfl,xl,_,_,_,rfl,rfl,SqL.of (by rw [aC nx];exact hx4),aM (j:=2) rfl,_,_,rfl,rfl,⟨by decide,by decide⟩,_,rfl,r3,_,rfl,.inl (SqL.of (by rw [aC no];exact ho4)),_,_,rfl,rfl,(by show (0:Int)<(odd.length:Nat);omega),r3,_,_,_,rfl,rfl,SqL.of (by rw [aC no];exact ho4),ev',_,rfl,_,rfl,_,_,rfl,rfl,_,_,rfl,rfl,(by show (0:Int)<3;decide),fl,_,_,0,rfl,rfl,aB,(by show ixN 3 ((x0 % 3+1) % 3)=_;rw [h0];rfl),?_⟩
     rw [dP]
     exact⟨_,rfl,t fl _ _ _ _ (sm _) aB (kp _ _ kv') (.kn (.int _)) (kp _ _ kv) (.inr (.inr (.inl bv)))⟩
    ·exact⟨_,rfl,t fl _ _ _ _ (sm _) aB (.kn (.int _)) (.kn (.int _)) (kp _ _ kv) (.inr (.inr (.inl bv)))⟩
end
end Ls
namespace Ls
open PySem L2 PySem.W
theorem lJ {H:Hp} {x dx C:Addr} (nx:H x=none) (ndx:H dx=none):aL H (upd (upd H dx (.own x)) x (.ins C dx [])):=fun b o e=>by
 rw [aC (aG e nx),aC (aG e ndx)]
 exact e
theorem gD.same {H H':Hp} {x:V} {b:Bool} (e:aL H H') (h:gD H x b):gD H' x b:=by
 cases h with
 | no h=>exact .no (h.same e)
 | tup q hl hp hb=>exact .tup (e _ _ q) hl (bV (fun _ _ z=>z.same e) hp) hb
theorem wA {K:Frag} {C:Addr}:kitOne K (.ref C) (.ref C)=some true:=by
 unfold kitOne
 rw [if_pos (by simp)]
structure Rf (K:Frag) (mg:Str→Option Value) (CL CW CX CM:Addr):Prop where
 mL:mg "LentError"=some (.ref CL)
 mW:mg "BadWork"=some (.ref CW)
 mX:mg "BadBound"=some (.ref CX)
 mM:mg "BadMoment"=some (.ref CM)
 eW:uX K CW
 eX:uX K CX
 hW:exmOne K (.ref CW) (.ref CL)=some true
 hX:exmOne K (.ref CX) (.ref CL)=some true
 wx:kitOne K (.ref CW) (.ref CX)=some false
 wm:kitOne K (.ref CW) (.ref CM)=some false
 xw:kitOne K (.ref CX) (.ref CW)=some false
 xm:kitOne K (.ref CX) (.ref CM)=some false
def pN:Sp:=fun vs H Q _=>∃(v x y z:V) (bl:Addr),vs=[v,.ref bl]∧gD H v false∧H bl=some (.lst [x,y,z])∧∀r H',aL H H'→H' r=some (.lst [.bl true,.bl false,.bl false])→Q (.ref r) H'
def pO:Sp:=fun vs H Q _=>∃(q bl:Addr) (a:Lm.Ps) (x y z:V),vs=[.ref q,.ref bl]∧cW H q a∧Lm.Wk a∧a.length≤1000∧H bl=some (.lst [x,y,z])∧Knd H x∧Knd H y∧Knd H z∧AaA x y z∧∀r H',aL H H'→H' r=some (.lst [.bl false,.bl true,.bl false])→Q (.ref r) H'
section
variable {P:Program} {w:World} {K:PySem.W.Frag} {mg:Str→Option Value} {base:Heap}
theorem eJ:aR ["_law_work_here","_law_bounds","_law_found","e"] ["_law_work_here","_law_bounds"] (aH fZ):=⟨rfl,rfl,rfl,by decide +kernel,rfl,by decide +kernel,by decide +kernel⟩
theorem ok_refW {f fI CB CL CW CX CM:Addr} {fd fdI:FuncData} (F:Fun K "_law_refused" "_law_refused" fZ f fd) (G:Gb mg) (TB:Bl K mg CB) (R:Rf K mg CL CW CX CM) (MK:Mk K CB fI) (GI:aK P w K mg base (CXE P w) 6 fI fdI ["self","work","span","every","least"] (pQ CW)) (bI:aP K fdI ["self","work","span","every","least"] []):
  aK P w K mg base CX0 8 f fd ["_law_work_here","_law_bounds"] pN:=by
 refine F.ok eJ (fun vs H Q E h=>?_) (fun cdv A outer s H vs Q E hr h=>?_)
 ·obtain⟨v,x,y,z,bl,rfl,_⟩:=h
  rfl
 ·obtain⟨v,x,y,z,bl,rfl,hv,hbl,t⟩:=h
  refine⟨_,aF (bU (i:=2) eJ.nd rfl (Or.inl rfl) (dG aE)) (aF (AcO (i:=3) rfl eJ.nd rfl rfl ⟨rfl,rfl⟩ (by rfl) R.mL (fun pn xe E hp=>aJ (cU (iI MK GI hr (by rfl) TB.mgC bI .nil hp (aA (pv 0) (aA (aX (r:=rIxL K) bE (pv 1) aD (fun _ _=>rfl)) (aA (aX (r:=rIxL K) bE (pv 1) aD (fun _ _=>rfl)) (aA (aX (r:=rIxL K) bE (pv 1) aD (fun _ _=>rfl)) aE)))))))
   (fun e=>aJ (bU (i:=2) eJ.nd rfl (Or.inl rfl) (dG (aA (aV (r:=uH K) cL (by rfl) G.isi dM (aA (pv 3) (aA (jL (v:=.ref CW) (by rfl) R.mW rfl) aE))) (aA (aV (r:=uH K) cL (by rfl) G.isi dM (aA (pv 3) (aA (jL (v:=.ref CX) (by rfl) R.mX rfl) aE))) (aA (aV (r:=uH K) cL (by rfl) G.isi dM (aA (pv 3) (aA (jL (v:=.ref CM) (by rfl) R.mM rfl) aE))) aE)))))))
   (aJ (bQ (pv 2)))),?_⟩
  refine⟨Nat.zero_le _,fun l0 n0=>?_⟩
  have s0:aL H (upd H l0 (.lst [])):=aI n0
  generalize upd H l0 (.lst [])=H0 at s0 ⊢
  have hb0:=s0 _ _ hbl
  refine⟨_,rfl,_,rfl,bl,_,_,_,rfl,rfl,SqL.of hb0,aM (j:=0) rfl,_,rfl,bl,_,_,_,rfl,rfl,SqL.of hb0,aM (j:=1) rfl,_,rfl,bl,_,_,_,rfl,rfl,SqL.of hb0,aM (j:=2) rfl,fun p dx np ndx ne=>?_⟩
  have sm:=lJ (C:=CB) np ndx
  generalize upd (upd H0 dx (.own p)) p (.ins CB dx [])=H1 at sm ⊢
  refine⟨p,v,x,y,z,rfl,(hv.same s0).same sm,CW,rfl,R.hW,fun ea he=>?_⟩
  have e0:(upd H1 ea (jC ea CW)) ea=some (jC ea CW):=aB
  have s1:aL H1 (upd H1 ea (jC ea CW)):=aI he
  generalize (upd H1 ea (jC ea CW))=H2 at e0 s1 ⊢
  refine⟨_,rfl,_,_,_,_,rfl,.ref CW,.inr ⟨ea,CW,rfl,e0,R.eW,wA⟩,_,rfl,_,_,_,_,rfl,.ref CX,.inr ⟨ea,CW,rfl,e0,R.eW,R.wx⟩,_,rfl,_,_,_,_,rfl,.ref CM,.inr ⟨ea,CW,rfl,e0,R.eW,R.wm⟩,by show 3≤sizeLine;decide,fun l hl=>?_⟩
  exact⟨_,rfl,t l _ (s0.trans (sm.trans (s1.trans (aI hl)))) aB⟩
theorem ok_refB {f fI CB CL CW CX CM:Addr} {fd fdI:FuncData} (F:Fun K "_law_refused" "_law_refused" fZ f fd) (G:Gb mg) (TB:Bl K mg CB) (R:Rf K mg CL CW CX CM) (MK:Mk K CB fI) (GI:aK P w K mg base (CXE P w) 6 fI fdI ["self","work","span","every","least"] (pT CX)) (bI:aP K fdI ["self","work","span","every","least"] []):
  aK P w K mg base CX0 8 f fd ["_law_work_here","_law_bounds"] pO:=by
 refine F.ok eJ (fun vs H Q E h=>?_) (fun cdv A outer s H vs Q E hr h=>?_)
 ·obtain⟨q,bl,a,x,y,z,rfl,_⟩:=h
  rfl
 ·obtain⟨q,bl,a,x,y,z,rfl,hw,wa,la,hbl,kx,ky,kz,bad,t⟩:=h
  refine⟨_,aF (bU (i:=2) eJ.nd rfl (Or.inl rfl) (dG aE)) (aF (AcO (i:=3) rfl eJ.nd rfl rfl ⟨rfl,rfl⟩ (by rfl) R.mL (fun pn xe E hp=>aJ (cU (iI MK GI hr (by rfl) TB.mgC bI .nil hp (aA (pv 0) (aA (aX (r:=rIxL K) bE (pv 1) aD (fun _ _=>rfl)) (aA (aX (r:=rIxL K) bE (pv 1) aD (fun _ _=>rfl)) (aA (aX (r:=rIxL K) bE (pv 1) aD (fun _ _=>rfl)) aE)))))))
   (fun e=>aJ (bU (i:=2) eJ.nd rfl (Or.inl rfl) (dG (aA (aV (r:=uH K) cL (by rfl) G.isi dM (aA (pv 3) (aA (jL (v:=.ref CW) (by rfl) R.mW rfl) aE))) (aA (aV (r:=uH K) cL (by rfl) G.isi dM (aA (pv 3) (aA (jL (v:=.ref CX) (by rfl) R.mX rfl) aE))) (aA (aV (r:=uH K) cL (by rfl) G.isi dM (aA (pv 3) (aA (jL (v:=.ref CM) (by rfl) R.mM rfl) aE))) aE)))))))
   (aJ (bQ (pv 2)))),?_⟩
  refine⟨Nat.zero_le _,fun l0 n0=>?_⟩
  have s0:aL H (upd H l0 (.lst [])):=aI n0
  generalize upd H l0 (.lst [])=H0 at s0 ⊢
  have hb0:=s0 _ _ hbl
  refine⟨_,rfl,_,rfl,bl,_,_,_,rfl,rfl,SqL.of hb0,aM (j:=0) rfl,_,rfl,bl,_,_,_,rfl,rfl,SqL.of hb0,aM (j:=1) rfl,_,rfl,bl,_,_,_,rfl,rfl,SqL.of hb0,aM (j:=2) rfl,fun p dx np ndx ne=>?_⟩
  have sm:=lJ (C:=CB) np ndx
  generalize upd (upd H0 dx (.own p)) p (.ins CB dx [])=H1 at sm ⊢
  have t1:=s0.trans sm
  refine⟨p,q,a,x,y,z,rfl,hw.same t1,wa,la,kx.same t1,ky.same t1,kz.same t1,bad,fun H1' s1'=>⟨CX,rfl,R.hX,fun ea he=>?_⟩⟩
  have e0:(upd H1' ea (jC ea CX)) ea=some (jC ea CX):=aB
  have s1:aL H1' (upd H1' ea (jC ea CX)):=aI he
  generalize (upd H1' ea (jC ea CX))=H2 at e0 s1 ⊢
  refine⟨_,rfl,_,_,_,_,rfl,.ref CW,.inr ⟨ea,CX,rfl,e0,R.eX,R.xw⟩,_,rfl,_,_,_,_,rfl,.ref CX,.inr ⟨ea,CX,rfl,e0,R.eX,wA⟩,_,rfl,_,_,_,_,rfl,.ref CM,.inr ⟨ea,CX,rfl,e0,R.eX,R.xm⟩,by show 3≤sizeLine;decide,fun l hl=>?_⟩
  exact⟨_,rfl,t l _ (t1.trans (s1'.trans (s1.trans (aI hl)))) aB⟩
end
end Ls
namespace L2
open PySem PySem.Spec PyProof.Rows PySem.W
section
variable {X:Cx}
def rRng1:List V→Hp→VK→Prop:=fun xs H Q=>∃j:Int,xs=[.int j]∧∀r,H r=none→Q (.ref r) (upd H r (.rng 0 j))
theorem AbL:gP X (.type "range") rRng1:=by
 intro pins s σ H xs us Q I r h
 obtain⟨j,rfl,q⟩:=h
 obtain⟨u,rfl,⟨t,rfl⟩⟩:=jV r
 refine call_range_1 ?_
 refine⟨.ref s.heap.objs.size,_,I.laid (o:=.rng 0 j) (t':=s.toks+1+1) (fun b o e=>Heap.get?_push_of_some _ e) (Nat.le_refl _) ⟨s.toks,t,s.toks+1,Heap.get?_push_size _ rfl⟩,rfl,q _ (I.hok.fresh (Nat.le_refl _))⟩
end
end L2
namespace Ls
open PySem L2 PySem.W
def Tabby (o:HO):Prop:=(∃ps,o=.tbl ps)∨∃c q,o=oN c q
theorem _root_.L2.Tab.mv {H H':Hp} {T:Addr} {pos:Pos} {q:Str} (t:Tab H T pos q) (f:∀b o,H b=some o→Tabby o→H' b=some o):Tab H' T pos q:=by
 obtain⟨ps,e,ht,hc⟩:=t
 refine⟨ps,f _ _ e (.inl ⟨ps,rfl⟩),ht,?_⟩
 rcases hc with z|⟨c',z,hC⟩
 ·exact .inl z
 ·exact .inr ⟨c',z,f _ _ hC (.inr ⟨_,_,rfl⟩)⟩
theorem _root_.L2.Tab.keep {H H':Hp} {T T':Addr} {pos pos':Pos} {q q':Str} (t:Tab H T pos q) (n:T≠T') (t':Tab H T' pos' q') (k:dY T' H H'):Tab H' T pos q:=by
 obtain⟨ps,e,ht,hc⟩:=t
 obtain⟨ps',e',_⟩:=t'
 refine⟨ps,k _ _ n e,ht,?_⟩
 rcases hc with z|⟨c',z,hC⟩
 ·exact .inl z
 ·exact .inr ⟨c',z,k _ _ (aW hC e' (by intro z;cases z)) hC⟩
theorem Tabby.ins {o:HO} {C dx:Addr} {fs:List (Str × V)} (h:Tabby o):o≠.ins C dx fs:=by
 rcases h with ⟨ps,rfl⟩|⟨c,q,rfl⟩ <;> intro z <;> cases z
theorem tO:∀{t:Lm.Ps} {p:Int × Int},Lm.Wk t→p.1<p.2→(∀q ∈ t,q.2≤p.1)→Lm.Wk (t++[p])
 | [],p,_,h,_=>⟨h,fun q hq=>absurd hq (by simp),trivial⟩
 | a::t,p,w,h,l=>by
  refine⟨w.1,fun q hq=>?_,tO w.2.2 h fun q hq=>l q (List.mem_cons_of_mem _ hq)⟩
  rcases List.mem_append.mp hq with hq|hq
  ·exact w.2.1 q hq
  ·rw [List.mem_singleton.mp hq]
   exact l a (List.mem_cons_self ..)
def gws (i:Nat):Lm.Ps:=(List.range i).map fun(j:Nat)=>(2 * (0+(j:Int)),2 * (0+(j:Int))+1)
theorem wE (i:Nat):gws (i+1)=gws i++[(2 * (0+(i:Int)),2 * (0+(i:Int))+1)]:=by
 unfold gws
 rw [List.range_succ,List.map_append]
 rfl
theorem pC (i:Nat):(gws i).length=i:=by
 unfold gws
 rw [List.length_map,List.length_range]
theorem uN {i:Nat} {q:Int × Int} (h:q ∈ gws i):q.2=q.1+1∧q.2≤2 * (i:Int):=by
 unfold gws at h
 obtain⟨j,hj,rfl⟩:=List.mem_map.mp h
 have:=List.mem_range.mp hj
 constructor
 ·rfl
 ·show 2 * (0+(j:Int))+1≤_
  omega
theorem AdW:∀i,Lm.Wk (gws i)
 | 0=>trivial
 | i+1=>by
  rw [wE]
  refine tO (AdW i) (by show 2 * (0+(i:Int))<2 * (0+(i:Int))+1;omega) fun q hq=>?_
  have:=(uN hq).2
  show q.2≤2 * (0+(i:Int))
  omega
theorem oY:∀{t:Lm.Ps} {k:Nat} {c:Pc},c ∈ pcs k t→∃q ∈ t,c.l=q.1∧c.h=q.2∧c.m=q.1∧c.o=none
 | [],_,c,hc=>absurd hc (by simp [pcs])
 | p::t,k,c,hc=>by
  rcases List.mem_cons.mp hc with rfl|hc
  ·exact⟨p,List.mem_cons_self ..,rfl,rfl,rfl,rfl⟩
  ·obtain⟨q,hq,z⟩:=oY hc
   exact⟨q,List.mem_cons_of_mem _ hq,z⟩
theorem uL:∀{t:Lm.Ps} {k i:Nat} {q:Int × Int},t[i]?=some q→(pcs k t)[i]?=some ⟨((k+i:Nat):Int),q.1,q.2,q.1,none⟩
 | [],_,i,q,h=>by simp at h
 | p::t,k,0,q,h=>by
  cases (show p=q by simpa using h)
  rfl
 | p::t,k,i+1,q,h=>by
  have:=uL (k:=k+1) (i:=i) (q:=q) (t:=t) (by simpa using h)
  show (pcs (k+1) t)[i]?=_
  rw [this]
  have e:k+1+i=k+(i+1):=by omega
  rw [e]
theorem sR (t:Lm.Ps) (k:Nat):((pcs k t).map Pc.n).Nodup:=by
 refine List.pairwise_iff_getElem.mpr fun i j hi hj lt=>?_
 rw [List.length_map,eR] at hi hj
 have e1:=uL (k:=k) (List.getElem?_eq_getElem hi)
 have e2:=uL (k:=k) (List.getElem?_eq_getElem hj)
 obtain⟨l1,g1⟩:=List.getElem?_eq_some_iff.mp e1
 obtain⟨l2,g2⟩:=List.getElem?_eq_some_iff.mp e2
 rw [List.getElem_map,List.getElem_map,g1,g2]
 show ((k+i:Nat):Int)≠((k+j:Nat):Int)
 omega
theorem jM:∀{t:Lm.Ps} {k:Nat},Lm.Wk t→(pcs k t).Pairwise fun x y=>x.l<y.l
 | [],_,_=>.nil
 | p::t,k,w=>by
  refine List.pairwise_cons.mpr ⟨fun c hc=>?_,jM w.2.2⟩
  obtain⟨q,hq,e1,_⟩:=oY hc
  have:=w.2.1 q hq
  have:=w.1
  show p.1<c.l
  omega
def oP:Lm.Ps:=gws 120++[(300,303)]
theorem lP:oP.length=121:=by unfold oP;rw [List.length_append,pC];rfl
theorem zV:Lm.Wk oP:=tO (AdW _) (by decide) fun q hq=>by have:=(uN hq).2;show q.2≤(300:Int);omega
theorem tM:(⟨120,300,303,300,none⟩:Pc) ∈ pcs 0 oP:=by
 unfold oP
 rw [iV,pC]
 exact List.mem_append_right _ (List.mem_singleton.mpr rfl)
theorem AbO {c:Pc} (hc:c ∈ pcs 0 oP) (hb:∀c' ∈ pcs 0 oP,c'.free=true→¬ ltP c'.k c.k):c.n=120:=by
 have hb:=hb _ tM rfl
 unfold oP at hc
 rw [iV,pC] at hc
 rcases List.mem_append.mp hc with h|h
 ·obtain⟨q,hq,e1,e2,e3,e4⟩:=oY h
  have:=(uN hq).1
  refine absurd (show ltP _ _ from .inl ?_) hb
  show -((303:Int)-300) < -(c.h-c.m)
  omega
 ·rw [List.mem_singleton.mp h]
  rfl
def dR:List Int:=(List.range 800).map fun(k:Nat)=>(0:Int)+(k:Int)
theorem eK:dR.length=800:=by unfold dR;rw [List.length_map,List.length_range]
theorem rng800:rngV 0 (800-0:Int).toNat=dR.map V.int:=by
 unfold rngV dR
 rw [List.map_map]
 rfl
theorem fr800:jS dR (some (0-0)) (some (900-0))=dR:=by
 unfold jS
 rw [eK]
 have e1:HT.sIx 800 0 (some (0-0))=0:=by decide
 have e2:HT.sIx 800 800 (some (900-0))=800:=by decide
 rw [e1,e2,List.drop_zero,List.take_of_length_le (by rw [eK];decide)]
theorem workerA:pG "a":=by
 refine⟨by decide +kernel,by decide +kernel,by decide +kernel,fun i c h=>?_⟩
 have:c=97:=by
  match i,h with
  | 0,h=>exact(Option.some.inj h).symm
  | i+1,h=>exact absurd h (by intro z;cases z)
 subst this
 exact⟨by decide +kernel,by decide +kernel⟩
theorem ndK1:(["_law_k"]:List Str).Nodup:=by decide +kernel
def iR (TG TP:Addr):Sp:=fun vs H Q _=>vs=[]∧Tab H TG rQ jA∧Tab H TP pPos oF∧TG≠TP∧∀H',Q (.bl true) H'
section
variable {P:Program} {w:World} {K:PySem.W.Frag} {mg:Str→Option Value} {base:Heap}
theorem oV:aR ["_law_work_here","_law_book"] [] (aH mY):=⟨rfl,rfl,rfl,by decide +kernel,rfl,by decide +kernel,by decide +kernel⟩
theorem AdH {f fI fC fP fL fT CB CS CP TG TP:Addr} {fd fdI fdC fdP fdL fdT:FuncData} (F:Fun K "_law_great_books" "_law_great_books" mY f fd) (G:Gb mg) (TB:Bl K mg CB)
  (GI:aK P w K mg base CX0 8 fI fdI ["self","work","span","every","least"] (oU CB CS CP)) (bI:aP K fdI ["self","work","span","every","least"] []) (MK:Mk K CB fI)
  (GC:aK P w K mg base CX0 9 fC fdC ["self","moment"] (jE CB CP TG)) (bC:aP K fdC ["self","moment"] []) (mC:cJ K CB "choice" fC)
  (GP:aK P w K mg base CX0 9 fP fdP ["self"] (gY CB CP TP)) (bP:aP K fdP ["self"] []) (mP:cJ K CB "pieces" fP)
  (GL:aK P w K mg base CX0 9 fL fdL ["self","worker","moment"] (tX CB CP TG)) (bL:aP K fdL ["self","worker","moment"] []) (mL:cJ K CB "lend" fL)
  (GT:aK P w K mg base CX0 9 fT fdT ["self","token","place","numbers","moment"] (wV CB CS CP)) (bT:aP K fdT ["self","token","place","numbers","moment"] []) (mT:cJ K CB "tell" fT):
  aK P w K mg base CX0 10 f fd [] (iR TG TP):=by
 refine F.ok oV (fun vs H Q E h=>?_) (fun cdv A outer s H vs Q E hr h=>?_)
 ·obtain⟨rfl,_⟩:=h
  rfl
 ·obtain⟨rfl,tG,tP,nT,t⟩:=h
  refine⟨_,aF (bU (i:=0) oV.nd rfl (Or.inl rfl) (dJ dA (by rfl) G.tuple fJ (aA (gL (NB:=["_law_k"]) (g:=dX 0) rfl (by decide +kernel) (by decide +kernel) (by decide +kernel) rfl
     (iC rfl G.range (aA aD aE)) (fun C s H fp pn=>bX (i:=0) ndK1 rfl (Or.inl rfl) (.inr rfl)) (fun C s H fp pn=>eE)
     (fun C s H fp pn=>cF (aA (aS iW aD (pv 0)) (aA (aS cQ (aS iW aD (pv 0)) aD) aE)))) aE)))
   (aF (bU (i:=1) oV.nd rfl (Or.inl rfl) (iI MK GI hr rfl TB.mgC bI .nil aY (aA (aS yY (pv 0) (cF (aA (cF (aA aD (aA aD aE))) aE))) (aA aD (aA aD (aA aD aE))))))
   (aF (cK (PW.pt (gK (bZ (kL hr.units) (dQ (pv 1) TB.cl mC GC hr bC .nil aY (aA aD aE)) (cF (aA eY (aA aD aE))) (cA _))
     (eV (bZ vO (aV cD (by rfl) G.len PySem.boot_len (aA (cN (pv 1) TB.cl mP GP hr bP .nil aY) aE)) aD (cA _))))) cC aZ)
   (aF (bU (i:=1) oV.nd rfl (Or.inl rfl) (iI MK GI hr rfl TB.mgC bI .nil aY (aA (cF (aA (cF (aA aD (aA aD aE))) aE)) (aA aD (aA aD (aA aD aE))))))
   (aF (cK (bZ (kL hr.units) (dQ (pv 1) TB.cl mL GL hr bL .nil aY (aA eY (aA aD aE))) (cF (aA aD (aA aD (aA aD (aA aD (aA aD aE)))))) (cA _)) cC aZ)
   (aJ (bQ (fU (AcY hr.units) (dQ (pv 1) TB.cl mT GT hr bT .nil aY (aA aD (aA aD (aA (dJ dA (by rfl) G.tuple fJ (aA (dJ (yA rfl) (by rfl) G.list uU (aA (dJ AbL (by rfl) G.range PyProof.Rows.boot_range (aA aD aE)) aE)) aE)) (aA aD aE))))) (cF (aA aD (aA aD (aA aD aE)))) (cA _)))))))),?_⟩
  have sl:sizeLine=16777216:=sizeLine_eq
  refine⟨120,rfl,by decide,by decide,fun acc hacc=>?_⟩
  refine⟨fun i m ys H'=>m=120-i∧i≤120∧cZ H' ys (gws i)∧aL H H'∧H' acc=some (.lst ys),⟨_,rfl,Nat.zero_le _,.nil,aI hacc,aB⟩,?_⟩
  rintro i m ys H' ⟨rfl,hi,hP,sm,hA⟩
  refine⟨hA,?_⟩
  have ly:ys.length=i:=by
   have:=hP.length
   rw [pC] at this
   exact this
  by_cases hlt:i<120
  ·refine .inr ⟨hlt,?_⟩
   rintro y H'' ⟨rfl,rfl⟩
   refine dD ?_
   refine eB ?_
   refine eL ?_
   refine⟨_,rfl,_,_,rfl,rfl,.inl ⟨by decide,by decide⟩,_,rfl,_,_,rfl,rfl,.inl ⟨by decide,by decide⟩,_,_,rfl,rfl,by show 2≤sizeLine;decide,fun t' ht=>?_⟩
   have nt:acc≠t':=aG hA ht
   refine⟨by rw [aC nt];exact hA,by omega,_,?_,rfl,hlt,?_,fun b o z=>?_,aB⟩
   ·omega
   ·rw [wE]
    exact cP (bV (fun v q ⟨b,z1,z2⟩=>⟨b,z1,by rw [aC (aW z2 hA (by intro z;cases z)),aC (aG z2 ht)];exact z2⟩) hP) ⟨t',rfl,by rw [aC nt.symm];exact aB⟩
   ·rw [aC (aG z hacc),aC (aG (sm _ _ z) ht)]
    exact sm _ _ z
  refine .inl ⟨by show (120:Int).toNat≤i;show 120≤i;omega,?_⟩
  obtain rfl:i=120:=by omega
  refine⟨acc,_,rfl,.inl ⟨SqL.of hA,fun r nr=>?_⟩⟩
  have s1:aL H (upd H' r (.tup ys)):=sm.trans (aI nr)
  have e1:(upd H' r (.tup ys)) r=some (.tup ys):=aB
  have p1:cZ (upd H' r (.tup ys)) ys (gws 120):=hP.same (aI nr)
  generalize upd H' r (.tup ys)=H1 at s1 e1 p1 ⊢
  refine⟨_,rfl,by show 2≤sizeLine;decide,fun r2 n2=>?_⟩
  have s2:aL H1 (upd H1 r2 (.tup [.int 300,.int 303])):=aI n2
  have e2:(upd H1 r2 (.tup [.int 300,.int 303])) r2=some (.tup [.int 300,.int 303]):=aB
  generalize upd H1 r2 (.tup [.int 300,.int 303])=H2 at s2 e2 ⊢
  refine⟨by show 1≤sizeLine;decide,fun r3 n3=>?_⟩
  have s3:aL H2 (upd H2 r3 (.tup [.ref r2])):=aI n3
  have e3:(upd H2 r3 (.tup [.ref r2])) r3=some (.tup [.ref r2]):=aB
  generalize upd H2 r3 (.tup [.ref r2])=H3 at s3 e3 ⊢
  refine⟨r,r3,ys,_,rfl,rfl,s3 _ _ (s2 _ _ e1),e3,(by show ys.length+1≤_;omega),fun r4 H4 s4 e4=>?_⟩
  have w4:cW H4 r4 oP:=⟨_,e4,cP (p1.same (s2.trans (s3.trans s4))) ⟨r2,rfl,s4 _ _ (s3 _ _ e2)⟩⟩
  have t4:aL H H4:=s1.trans (s2.trans (s3.trans s4))
  refine fun b dx nb ndx ne=>?_
  have s5:=lJ (C:=CB) nb ndx
  have e5:(upd (upd H4 dx (.own b)) b (.ins CB dx [])) b=some (.ins CB dx []):=aB
  generalize upd (upd H4 dx (.own b)) b (.ins CB dx [])=H5 at s5 e5 ⊢
  have t5:=t4.trans s5
  refine⟨b,dx,r4,oP,1,1,1,rfl,e5,w4.same s5,zV,by rw [lP];decide,by decide,by decide,by decide,by decide,fun sh spw sd d ws ps H6 k6 _ _ _ S6 _ _ _ B6=>?_⟩
  have tb6:∀{T:Addr} {pos:Pos} {q:Str},Tab H T pos q→Tab H6 T pos q:=fun z=>(z.same t5).mv fun a o e h=>k6 a o e (aW e e5 h.ins)
  have tG6:=tb6 tG
  have tP6:=tb6 tP
  obtain⟨dx6,hb6⟩:=B6.ob
  refine⟨rfl,?_⟩
  refine⟨_,rfl,b,dx6,_,rfl,hb6,rfl,b,r4,sh,d,1,1,1,_,0,0,0,ps,pcs 0 oP,rfl,B6,(by rw [eR,lP];decide),by decide,tG6,⟨_,tM,rfl⟩,fun c rc H7 hc _ best k7 tG7 e7=>?_⟩
  have en:=AbO hc best
  rw [en] at e7
  have st7:cT H6 H7:=by
   obtain⟨qs,e,_⟩:=tG6
   exact k7.toT e
  have tP7:=tP6.keep nT.symm tG6 k7
  refine⟨by show 2≤sizeLine;decide,fun r8 n8=>?_⟩
  have s8:aL H7 (upd H7 r8 (.tup [.str "piece",.int 120])):=aI n8
  have e8:(upd H7 r8 (.tup [.str "piece",.int 120])) r8=some (.tup [.str "piece",.int 120]):=aB
  generalize upd H7 r8 (.tup [.str "piece",.int 120])=H8 at s8 e8 ⊢
  refine⟨.tuple [.str "piece",.int 120],.tuple [.str "piece",.int 120],.tup (SqT.of (s8 _ _ e7)) (.cons (.str _) (.cons (.int _) .nil)),.tup (SqT.of e8) (.cons (.str _) (.cons (.int _) .nil)),by decide +kernel,by decide +kernel,_,rfl,gW (by decide +kernel) ?_⟩
  have B8:=(B6.sameT st7).sameT (aL.toT s8)
  obtain⟨dx8,hb8⟩:=B8.ob
  refine⟨_,rfl,b,dx8,_,rfl,hb8,rfl,b,r4,sh,d,1,1,1,_,0,0,ps,pcs 0 oP,rfl,B8,(by rw [eR,lP];decide),(jM zV).imp Int.le_of_lt,tP7.same s8,fun rp H9 rs cs' k9 _ tP9 e9 pm _ rows=>?_⟩
  have tG9:=(tG7.same s8).keep nT (tP7.same s8) k9
  have lr:rs.length=121:=by rw [rows.length,pm.length_eq,eR,lP]
  refine⟨rp,_,rfl,.inl (SqL.of e9),rfl,_,rfl,gW (by rw [lr];decide +kernel) ?_⟩
  clear tb6
  refine⟨by show 2≤sizeLine;decide,fun q2 n2=>?_⟩
  have s10:aL H9 (upd H9 q2 (.tup [.int 0,.int 900])):=aI n2
  have e10:(upd H9 q2 (.tup [.int 0,.int 900])) q2=some (.tup [.int 0,.int 900]):=aB
  generalize upd H9 q2 (.tup [.int 0,.int 900])=H10 at s10 e10 ⊢
  refine⟨by show 1≤sizeLine;decide,fun q3 n3=>?_⟩
  have s11:aL H10 (upd H10 q3 (.tup [.ref q2])):=aI n3
  have e11:(upd H10 q3 (.tup [.ref q2])) q3=some (.tup [.ref q2]):=aB
  generalize upd H10 q3 (.tup [.ref q2])=H11 at s11 e11 ⊢
  refine fun b2 dx2 nb2 ndx2 ne2=>?_
  have s12:=lJ (C:=CB) nb2 ndx2
  have e12:(upd (upd H11 dx2 (.own b2)) b2 (.ins CB dx2 [])) b2=some (.ins CB dx2 []):=aB
  generalize upd (upd H11 dx2 (.own b2)) b2 (.ins CB dx2 [])=H12 at s12 e12 ⊢
  have wk1:Lm.Wk [(0,900)]:=⟨by decide,fun q hq=>absurd hq (by simp),trivial⟩
  have sh1:Lm.Sh [(0,900)]:=⟨by decide,fun q hq=>absurd hq (by simp),trivial⟩
  refine⟨b2,dx2,q3,[(0,900)],5,800,800,rfl,e12,⟨[.ref q2],s12 _ _ e11,.cons ⟨q2,rfl,s12 _ _ (s11 _ _ e10)⟩ .nil⟩,wk1,by decide,by decide,by decide,by decide,by decide,fun sh2 spw2 sd2 d2 ws2 ps2 H13 k13 _ _ ndd S13 shw memw _ B13=>?_⟩
  have ew:ws2=[(0,900)]:=Lm.sh_same shw sh1 memw
  subst ew
  have tG13:Tab H13 TG rQ jA:=((tG9.same (s10.trans s11)).same s12).mv fun a o e h=>k13 a o e (aW e e12 h.ins)
  obtain⟨dx13,hb13⟩:=B13.ob
  refine⟨rfl,?_⟩
  refine⟨_,rfl,b2,dx13,_,rfl,hb13,rfl,b2,q3,sh2,d2,5,800,800,_,0,0,0,"a",ps2,_,rfl,B13,by decide,sR _ _,workerA,by decide,tG13,⟨⟨0,0,900,0,none⟩,List.mem_cons_self ..,rfl⟩,fun k p c rl H14 hp hc hf _ k14 tG14 B14 e14=>?_⟩
  obtain⟨rfl,rfl⟩:k=0∧c=⟨0,0,900,0,none⟩:=by
   match k,hc with
   | 0,hc=>exact⟨rfl,(Option.some.inj hc).symm⟩
   | k+1,hc=>exact absurd hc (by intro z;cases z)
  have hpc:=B13.pc
  obtain⟨c',hc',lv,⟨dp,hat⟩,hld⟩:=bO hpc hp
  refine⟨by show 5≤sizeLine;decide,fun r15 n15=>?_⟩
  have s15:aL H14 (upd H14 r15 (.tup [.int 0,.int 0,.int 0,.int 900,.int 5])):=aI n15
  have e15:(upd H14 r15 (.tup [.int 0,.int 0,.int 0,.int 900,.int 5])) r15=some (.tup [.int 0,.int 0,.int 0,.int 900,.int 5]):=aB
  generalize upd H14 r15 (.tup [.int 0,.int 0,.int 0,.int 900,.int 5])=H15 at s15 e15 ⊢
  refine⟨.tuple [.int 0,.int 0,.int 0,.int 900,.int 5],.tuple [.int 0,.int 0,.int 0,.int 900,.int 5],.tup (SqT.of (s15 _ _ e14)) (.cons (.int _) (.cons (.int _) (.cons (.int _) (.cons (.int _) (.cons (.int _) .nil))))),.tup (SqT.of e15) (.cons (.int _) (.cons (.int _) (.cons (.int _) (.cons (.int _) (.cons (.int _) .nil))))),by decide +kernel,by decide +kernel,_,rfl,gW (by decide +kernel) ?_⟩
  have B15:=B14.sameT (aL.toT s15)
  obtain⟨dx15,hb15⟩:=B15.ob
  have S15:cR CS H15 sh2 spw2 sd2 [(0,900)] []:=by
   obtain⟨qs,eT,_⟩:=tG13
   obtain⟨⟨dz,z1⟩,⟨xs,x1,x2⟩,z3⟩:=S13
   have n1:sh2≠b2:=aW z1 hb13 (by intro z;injection z with _ _ z;exact absurd (congrArg List.length z) (by show ¬ 2=9;decide))
   have n2:sh2≠p:=aW z1 hat (by intro z;injection z with _ _ z;exact absurd (congrArg List.length z) (by show ¬ 2=5;decide))
   refine⟨⟨dz,s15 _ _ (k14 _ _ z1 n1 n2 (aW z1 eT (by intro z;cases z)))⟩,⟨xs,s15 _ _ (k14 _ _ x1 (aW x1 hb13 (by intro z;cases z)) (aW x1 hat (by intro z;cases z)) (aW x1 eT (by intro z;cases z))),?_⟩,s15 _ _ (k14 _ _ z3 (aW z3 hb13 (by intro z;cases z)) (aW z3 hat (by intro z;cases z)) (aW z3 eT (by intro z;cases z)))⟩
   exact bV (fun v q ⟨b,y1,y2⟩=>⟨b,y1,s15 _ _ (k14 _ _ y2 (aW y2 hb13 (by intro z;cases z)) (aW y2 hat (by intro z;cases z)) (aW y2 eT (by intro z;cases z)))⟩) x2
  refine⟨_,rfl,b2,dx15,_,rfl,hb15,rfl,800,rfl,fun rr nrr=>?_⟩
  have s16:aL H15 (upd H15 rr (.rng 0 800)):=aI nrr
  have e16:(upd H15 rr (.rng 0 800)) rr=some (.rng 0 800):=aB
  generalize upd H15 rr (.rng 0 800)=H16 at s16 e16 ⊢
  refine⟨rr,0,800,rfl,e16,⟨by decide,by decide,by decide,by decide⟩,by decide,fun rl2 nl2=>?_⟩
  rw [rng800]
  have s17:aL H16 (upd H16 rl2 (.lst (dR.map V.int))):=aI nl2
  have e17:(upd H16 rl2 (.lst (dR.map V.int))) rl2=some (.lst (dR.map V.int)):=aB
  generalize upd H16 rl2 (.lst (dR.map V.int))=H17 at s17 e17 ⊢
  refine⟨rl2,_,rfl,.inl ⟨SqL.of e17,fun nr nnr=>?_⟩⟩
  have s18:aL H17 (upd H17 nr (.tup (dR.map V.int))):=aI nnr
  have e18:(upd H17 nr (.tup (dR.map V.int))) nr=some (.tup (dR.map V.int)):=aB
  generalize upd H17 nr (.tup (dR.map V.int))=H18 at s18 e18 ⊢
  have t18:aL H15 H18:=s16.trans (s17.trans s18)
  refine⟨b2,q3,sh2,d2,spw2,sd2,nr,5,800,800,_,1,0,0,1,0,ps2,_,0,p,⟨0,0,900,0,some (0,"a",5)⟩,[(0,900)],[],dR,rfl,B15.sameT (aL.toT t18),S15.same t18,by decide,by decide,by decide,hp,rfl,rfl,fun j e _ lt=>absurd lt (Nat.not_lt_zero _),e18,by rw [eK];decide,by decide,by decide,by rw [eK];decide,by decide,by decide,fun j n _ lt=>absurd lt (by show ¬ (0:Int)+(j:Int)<0;omega),?_,ndd.symm,by decide,by decide,?_,?_⟩
  ·exact sR [(0,900)] 0
  ·show (_∧_∧_∧_)
   rw [fr800,eK]
   exact⟨by decide,by decide,⟨_,List.mem_singleton.mpr rfl,by decide,by decide⟩,fun j _=>rfl⟩
  ·intro r19 H19 _ _ _ e19
   rw [fr800,eK] at e19
   refine⟨by show 3≤sizeLine;decide,fun r20 n20=>?_⟩
   have e19:H19 r19=some (.tup [.int 800,.int 900,.int 6]):=e19
   refine⟨.tuple [.int 800,.int 900,.int 6],.tuple [.int 800,.int 900,.int 6],.tup (SqT.of (aI n20 _ _ e19)) (.cons (.int _) (.cons (.int _) (.cons (.int _) .nil))),.tup (SqT.of aB) (.cons (.int _) (.cons (.int _) (.cons (.int _) .nil))),by decide +kernel,by decide +kernel,?_⟩
   have e:PyData.eqv (.tuple [.int 800,.int 900,.int 6]) (.tuple [.int 800,.int 900,.int 6])=true:=by decide +kernel
   rw [e]
   exact t _
end
end Ls
namespace Ls
open PySem L2 PySem.W
def pcD (c:Pc):PyData:=.tuple [.int c.n,.int c.l,.int c.h,.int c.m,.none]
theorem iK.mv {H H':Hp} {v:V} {c:Pc} (h:iK H v c) (f:∀a ys,H a=some (.tup ys)→H' a=some (.tup ys)):iK H' v c:=by
 obtain⟨t,lv,h1,h2,h3⟩:=h
 exact⟨t,lv,h1,f _ _ h2,h3.move f⟩
theorem iK.rdv {K:Frag} {H:Hp} {v:V} {c:Pc} (h:iK H v c) (hc:c.o=none):RdV K H v (pcD c):=by
 obtain⟨t,lv,rfl,h2,h3⟩:=h
 rw [hc] at h3
 have e:lv=.non:=by
  cases lv with
  | non=>rfl
  | _=>exact h3.elim
 subst e
 exact .tup (SqT.of h2) (.cons (.int _) (.cons (.int _) (.cons (.int _) (.cons (.int _) (.cons .non .nil)))))
theorem sP {K:Frag} {H:Hp}:∀{rs:List V} {cs:List Pc},Paired (iK H) rs cs→(∀c ∈ cs,c.o=none)→oR K H rs (cs.map pcD)
 | _,_,.nil,_=>.nil
 | _,_,.cons r t,h=>.cons (r.rdv (h _ (List.mem_cons_self ..))) (sP t fun c hc=>h c (List.mem_cons_of_mem _ hc))
def eI (H:Hp) (p:Addr) (cs:List Pc):Prop:=∃rs,H p=some (.lst rs)∧Paired (iK H) rs cs
theorem eI.rdv {K:Frag} {H:Hp} {p:Addr} {cs:List Pc} (h:eI H p cs) (hc:∀c ∈ cs,c.o=none):RdV K H (.ref p) (.list (cs.map pcD)):=by
 obtain⟨rs,h1,h2⟩:=h
 exact .lst (SqL.of h1) (sP h2 hc)
theorem eI.mv {H H':Hp} {p:Addr} {cs:List Pc} (h:eI H p cs) (f:∀a ys,H a=some (.tup ys)→H' a=some (.tup ys)) (g:∀ys,H p=some (.lst ys)→H' p=some (.lst ys)):eI H' p cs:=by
 obtain⟨rs,h1,h2⟩:=h
 exact⟨rs,g _ h1,bV (fun _ _ z=>z.mv f) h2⟩
theorem eI.same {H H':Hp} {p:Addr} {cs:List Pc} (e:aL H H') (h:eI H p cs):eI H' p cs:=h.mv (fun a ys=>e a _) fun ys=>e _ _
theorem eI.sameT {H H':Hp} {p:Addr} {cs:List Pc} (e:cT H H') (h:eI H p cs):eI H' p cs:=h.mv (fun a ys=>e.at) fun ys=>e.at
theorem nQ (cs:List Pc):Gd 2 (.list (cs.map pcD)):=by
 refine Gd.lst (n:=1) ?_
 intro d hd
 obtain⟨c,_,rfl⟩:=List.mem_map.mp hd
 exact Gd.tup (n:=0) (eN (Gd.int _) (eN (Gd.int _) (eN (Gd.int _) (eN (Gd.int _) (eN Gd.non nU)))))
theorem Gd.eqv {n:Nat} {d:PyData} (h:Gd n d):PyData.eqv d d=true:=PySem.SeqAt.eqv_refl d h.1
theorem qQ:∀{cs ds:List Pc},cs.Pairwise (fun x y=>x.l<y.l)→ds.Perm cs→ds.Pairwise (fun x y=>x.l≤y.l)→ds=cs
 | [],ds,_,p,_=>List.Perm.eq_nil p
 | c::cs,ds,h,p,s=>by
  cases ds with
  | nil=>exact absurd p.length_eq (by simp)
  | cons d ds=>
   have hd:d ∈ c::cs:=p.mem_iff.mp (List.mem_cons_self ..)
   have hc:c ∈ d::ds:=p.mem_iff.mpr (List.mem_cons_self ..)
   obtain⟨h1,h2⟩:=List.pairwise_cons.mp h
   obtain⟨s1,s2⟩:=List.pairwise_cons.mp s
   have e:d=c:=by
    rcases List.mem_cons.mp hd with z|z
    ·exact z
    ·rcases List.mem_cons.mp hc with y|y
     ·exact y.symm
     ·have:=h1 d z
      have:=s1 c y
      omega
   subst e
   rw [qQ h2 (List.Perm.cons_inv p) s2]
theorem lF {t:Lm.Ps} {k:Nat}:∀c ∈ pcs k t,c.o=none:=fun c hc=>by
 obtain⟨q,_,_,_,_,e⟩:=oY hc
 exact e
theorem AdM {H:Hp} {a b:Addr} (e:H a=some (.tup [.ref b])) (s:oQ H (.ref b) none):gD H (.ref a) false:=
 .tup e (by show 1≤1000;decide) (.cons s .nil) ⟨fun z=>absurd z (by decide),fun z=>absurd (z.1 0 none rfl) (by decide)⟩
theorem nw_two {H:Hp} {a b c:Addr} {l h l' h':Int} (e:H a=some (.tup [.ref b,.ref c])) (eb:H b=some (.tup [.int l,.int h])) (ec:H c=some (.tup [.int l',.int h'])) (n:l<h) (n':l'<h') (o:l'<h):gD H (.ref a) false:=
 .tup e (by show 2≤1000;decide) (.cons (.yes eb n) (.cons (.yes ec n') .nil)) ⟨fun z=>absurd z (by decide),fun z=>absurd (z.2 0 l h l' h' rfl rfl) (by omega)⟩
theorem nw_ints {H:Hp} {a:Addr} {i j:Int} (e:H a=some (.tup [.int i,.int j])):gD H (.ref a) false:=
 .tup e (by show 2≤1000;decide) (.cons (.no (.int _)) (.cons (.no (.int _)) .nil)) ⟨fun z=>absurd z (by decide),fun z=>absurd (z.1 0 none rfl) (by decide)⟩
abbrev lawN:List Str:=["_law_script","_law_work_here","_law_xs","_law_every","_law_bounds","_law_book","_law_due","_law_turn","_law_found","_law_left","_law_cell","_law_ys","_law_bad"]
end Ls
namespace L2
open PySem PySem.Spec PyProof.Rows
structure PSc (X:Cx) (st:Stmt) (t:TS):Prop where
 h:PS X st t
section
variable {X:Cx}
theorem pek_ix {a b:Expr} {ta tb:TE} {pos:Pos} {r:R2} (hr:IxR X r) (ha:PEc X a ta) (hb:PE X b tb) (hs:zY b):PEc X (.Subscript a b pos) (tOp r ta tb):=⟨aX hr ha.h hb hs⟩
theorem psk_set {pos:Pos} {i:Nat} {x:Str} {e:Expr} {te:TE} {pos':Pos} (hN:X.N.Nodup) (hi:X.N[i]?=some x) (hx:Loc X.env.scope x) (he:PEc X e te) (hs:swapsWith e (some (.Name x pos')) pos.line X.env=pure false:=by rfl) (hf:X.fn x=true∨X.env.scope.names.lookup x=some .local:=by first|exact .inl rfl|exact .inr rfl|assumption):
  PSc X (.Assign [.Name x pos'] e pos) (tAsg te (dX i)):=⟨bU hN hi hx he.h hs hf⟩
theorem AcN {st:Stmt} {rest:List Stmt} {t u:TS} (h1:PSc X st t) (h2:PSsc X rest u):PSsc X (st::rest) (tSeq t u):=⟨aF h1.h h2.h⟩
end
end L2
namespace Ls
open PySem L2 PySem.W
section
variable {P:Program} {w:World} {K:PySem.W.Frag} {mg:Str→Option Value} {base:Heap}
theorem hG:aR lawN ["_law_script"] (aH kE):=⟨rfl,rfl,rfl,by decide +kernel,rfl,by decide +kernel,by decide +kernel⟩
theorem ok_end {f CB CP TG TP fD fB fR fP fG:Addr} {fdD fdB fdR fdP fdG:FuncData} (G:Gb mg) (TB:Bl K mg CB)
  (GD:aK P w K mg base CX0 10 fD fdD ["_law_cell","_law_many"] jD) (kD:keepIn K (.ref fD)=true) (bD:aP K fdD ["_law_cell","_law_many"] []) (mD:mg "_law_draws"=some (.ref fD))
  (GB:aK P w K mg base CX0 10 fB fdB ["_law_bounds","_law_xs"] pU) (kB:keepIn K (.ref fB)=true) (bB:aP K fdB ["_law_bounds","_law_xs"] []) (mB:mg "_law_bad_bounds"=some (.ref fB))
  (GR:aK P w K mg base CX0 10 fR fdR ["_law_work_here","_law_bounds"] pO) (GW:aK P w K mg base CX0 10 fR fdR ["_law_work_here","_law_bounds"] pN) (kR:keepIn K (.ref fR)=true) (bR:aP K fdR ["_law_work_here","_law_bounds"] []) (mR:mg "_law_refused"=some (.ref fR))
  (GP:aK P w K mg base CX0 10 fP fdP ["self"] (gY CB CP TP)) (bP:aP K fdP ["self"] []) (mP:cJ K CB "pieces" fP)
  (GG:aK P w K mg base CX0 10 fG fdG [] (iR TG TP)) (kG:keepIn K (.ref fG)=true) (bG:aP K fdG [] []) (mG:mg "_law_great_books"=some (.ref fG))
  {cdv:Value} {A:Around} {outer:List Env} {s:Shared} {H:Hp} {E:XK} (hr:Room 10 (A.deeper (PyProof.Rows.envOfC "law" (aH kE) s.heap.objs.size f cdv))):
  ∃t,PSs (kO CX0 P w K mg base lawN "law" (aH kE) f cdv A outer s H E).nox ((aO kE).drop 10) t∧∀(D:jT) (a q bl b pw sh d dl:Addr) (sp ev le nn nt mo:Int) (ps:List Addr) (ns:List Int) (wk:Lm.Ps) (o2 o3 o7 o8 o9 o10 o11 o12:Option V) (G3:Hp),
   SqL K G3 a (ns.map V.int)→cW G3 q wk→Lm.Wk wk→wk.length≤4→G3 bl=some (.lst [.int sp,.int ev,.int le])→1≤ev→iO CB CP G3 b pw sh d sp ev le nn nt mo ps (pcs 0 wk)→eI G3 dl (pcs 0 wk)→Tab G3 TG rQ jA→Tab G3 TP pPos oF→TG≠TP →
   (∀G9,D.rt (.bl true) G9)→t D [some (.ref a),some (.ref q),o2,o3,some (.ref bl),some (.ref b),some (.ref dl),o7,o8,o9,o10,o11,o12] G3:=by
 refine⟨_,aF (eG PassesOwn.never rfl (oX (qI yK (pv 0) (lD aD) (lD aD))) (bX (i:=10) hG.nd rfl (Or.inl rfl))
   (aF (bU (i:=11) hG.nd rfl (Or.inl rfl) (bJ GD hr rfl mD kD bD .nil aY (aA (pv 10) (aA aD aE))))
   (PSsc.h (AcN (psk_set (i:=12) hG.nd rfl (Or.inl rfl) (pek_ix bE (yW (pcc eZ (pcc (dJ lM (by rfl) G.list uU (aA (pv 1) aE)) (pcc (cF (aA (cF (aA aD (aA aD aE))) aE))
     (pcc (cF (aA (cF (aA aD (aA aD aE))) (aA (cF (aA aD (aA aD aE))) aE))) (pcc (cF (aA (cF (aA aD (aA gN aE))) aE)) (pcc eY (pcc aD (pcc (cF (aA aD (aA aD aE))) pcn)))))))))
     (aS dH (aS oZ (aX bE (pv 11) aD (fun _ _=>rfl)) aD) aD) (fun _ _=>rfl)))
    ⟨aF (cK (bZ (kL hr.units) (bJ GR hr rfl mR kR bR .nil aY (aA (pv 1) (aA (bJ GB hr rfl mB kB bB .nil aY (aA (pv 4) (aA (pv 11) aE))) aE))) (dG (aA gN (aA gN (aA gN aE)))) (cA _)) cC aZ)
     (aJ (cK (bZ (kL hr.units) (bJ GW hr rfl mR kR bR .nil aY (aA (pv 12) (aA (aX bE (dG (aA (pv 4) (aA (bJ GB hr rfl mB kB bB .nil aY (aA (pv 4) (aA (pv 11) aE))) aE))) (aS dH (aX bE (pv 11) aD (fun _ _=>rfl)) aD) (fun _ _=>rfl)) aE))) (dG (aA gN (aA gN (aA gN aE)))) (cA _)) cC aZ))⟩))))
  (aJ (bQ (iU (fU (AcY hr.units) (cN (pv 5) TB.cl mP GP hr bP .nil aY) (pv 6) (cA _)) (kJ (AcW GG hr rfl mG kG bG .nil aY))))),?_⟩
 intro D a q bl b pw sh d dl sp ev le nn nt mo ps ns wk o2 o3 o7 o8 o9 o10 o11 o12 G3 hS hw wkk lw hbl hev hbk hdl tG tP nT fin
 have sl:sizeLine=16777216:=sizeLine_eq
 refine⟨_,rfl,2,rfl,14,rfl,a,_,rfl,hS,fun c nc=>?_⟩
 rw [AeJ]
 generalize jS ns (some 2) (some 14)=cs
 have s4:aL G3 (upd G3 c (.lst (cs.map V.int))):=aI nc
 have e4:(upd G3 c (.lst (cs.map V.int))) c=some (.lst (cs.map V.int)):=aB
 generalize upd G3 c (.lst (cs.map V.int))=G4 at s4 e4 ⊢
 refine⟨c,rfl,⟨_,SqL.of e4⟩,wG (K:=K) (a:=c) (xs:=cs.map V.int) (fun i σ G=>aL G4 G∧∃o10 o11 o12,σ=[some (.ref a),some (.ref q),o2,o3,some (.ref bl),some (.ref b),some (.ref dl),o7,o8,o9,o10,o11,o12]) ⟨aL.refl _,_,_,_,rfl⟩ (fun i σ G _ h=>SqL.of (h.1 _ _ e4)) ?_ ?_⟩
 ·rintro i y σ G5 hi ⟨s5,u10,u11,u12,rfl⟩
  obtain⟨cc,rfl⟩:∃z,y=V.int z:=by
   rw [List.getElem?_map] at hi
   cases e:cs[i]? with
   | none=>rw [e] at hi;cases hi
   | some z=>rw [e] at hi;exact⟨z,(Option.some.inj hi).symm⟩
  refine dD ?_
  refine⟨_,rfl,cc,4,rfl,by decide,fun lx xs G6 s6 lxs bx ex=>?_⟩
  have t6:=s4.trans (s5.trans s6)
  obtain⟨x0,x1,x2,x3,rfl⟩:∃x0 x1 x2 x3,xs=[x0,x1,x2,x3]:=by
   match xs,lxs with
   | [x0,x1,x2,x3],_=>exact⟨x0,x1,x2,x3,rfl⟩
  obtain⟨ws,w1,w2⟩:=id hw
  refine⟨_,rfl,q,_,rfl,.inr (SqT.of (t6 _ _ w1)),fun r1 n1=>?_⟩
  have v1:aL G6 (upd G6 r1 (.lst ws)):=aI n1
  have f1:(upd G6 r1 (.lst ws)) r1=some (.lst ws):=aB
  generalize upd G6 r1 (.lst ws)=G7 at v1 f1 ⊢
  refine⟨by show 2≤sizeLine;decide,fun r2 n2=>?_⟩
  have v2:aL G7 (upd G7 r2 (.tup [.int 3,.int 3])):=aI n2
  have f2:(upd G7 r2 (.tup [.int 3,.int 3])) r2=some (.tup [.int 3,.int 3]):=aB
  generalize upd G7 r2 (.tup [.int 3,.int 3])=G8 at v2 f2 ⊢
  refine⟨by show 1≤sizeLine;decide,fun r3 n3=>?_⟩
  have v3:aL G8 (upd G8 r3 (.tup [.ref r2])):=aI n3
  have f3:(upd G8 r3 (.tup [.ref r2])) r3=some (.tup [.ref r2]):=aB
  generalize upd G8 r3 (.tup [.ref r2])=G9 at v3 f3 ⊢
  refine⟨by show 2≤sizeLine;decide,fun r4 n4=>?_⟩
  have v4:aL G9 (upd G9 r4 (.tup [.int 0,.int 2])):=aI n4
  have f4:(upd G9 r4 (.tup [.int 0,.int 2])) r4=some (.tup [.int 0,.int 2]):=aB
  generalize upd G9 r4 (.tup [.int 0,.int 2])=G10 at v4 f4 ⊢
  refine⟨by show 2≤sizeLine;decide,fun r5 n5=>?_⟩
  have v5:aL G10 (upd G10 r5 (.tup [.int 1,.int 3])):=aI n5
  have f5:(upd G10 r5 (.tup [.int 1,.int 3])) r5=some (.tup [.int 1,.int 3]):=aB
  generalize upd G10 r5 (.tup [.int 1,.int 3])=G11 at v5 f5 ⊢
  refine⟨by show 2≤sizeLine;decide,fun r6 n6=>?_⟩
  have v6:aL G11 (upd G11 r6 (.tup [.ref r4,.ref r5])):=aI n6
  have f6:(upd G11 r6 (.tup [.ref r4,.ref r5])) r6=some (.tup [.ref r4,.ref r5]):=aB
  generalize upd G11 r6 (.tup [.ref r4,.ref r5])=G12 at v6 f6 ⊢
  refine⟨by show 2≤sizeLine;decide,fun r7 n7=>?_⟩
  have v7:aL G12 (upd G12 r7 (.tup [.int 0,.bl true])):=aI n7
  have f7:(upd G12 r7 (.tup [.int 0,.bl true])) r7=some (.tup [.int 0,.bl true]):=aB
  generalize upd G12 r7 (.tup [.int 0,.bl true])=G13 at v7 f7 ⊢
  refine⟨by show 1≤sizeLine;decide,fun r8 n8=>?_⟩
  have v8:aL G13 (upd G13 r8 (.tup [.ref r7])):=aI n8
  have f8:(upd G13 r8 (.tup [.ref r7])) r8=some (.tup [.ref r7]):=aB
  generalize upd G13 r8 (.tup [.ref r7])=G14 at v8 f8 ⊢
  refine⟨by show 2≤sizeLine;decide,fun r9 n9=>?_⟩
  have v9:aL G14 (upd G14 r9 (.tup [.int 1,.int 2])):=aI n9
  have f9:(upd G14 r9 (.tup [.int 1,.int 2])) r9=some (.tup [.int 1,.int 2]):=aB
  generalize upd G14 r9 (.tup [.int 1,.int 2])=G15 at v9 f9 ⊢
  refine⟨by show 8≤sizeLine;decide,fun r10 n10=>?_⟩
  have u9:=v9
  have u8:=v8.trans u9
  have u7:=v7.trans u8
  have u6:=v6.trans u7
  have u5:=v5.trans u6
  have u4:=v4.trans u5
  have u3:=v3.trans u4
  have u2:=v2.trans u3
  have al0:∀v ∈ [V.non,.ref r1,.ref r3,.ref r6,.ref r8,.str "work",.int 7,.ref r9],gD G15 v false:=
   aN (.no .non) (aN (.no (.lst (u2 _ _ f1))) (aN (AdM (u4 _ _ f3) (.turned (u3 _ _ f2) (by decide))) (aN (nw_two (u7 _ _ f6) (u5 _ _ f4) (u6 _ _ f5) (by decide) (by decide) (by decide)) (aN (AdM (u9 _ _ f8) (.one (u8 _ _ f7) (.kn (.int _)) (.kn (.bl _)) (.inr rfl))) (aN (.no (.str _)) (aN (.no (.int _)) (aN (nw_ints f9) cO)))))))
  have l8:[V.non,.ref r1,.ref r3,.ref r6,.ref r8,.str "work",.int 7,.ref r9].length=8:=rfl
  have t15:aL G3 G15:=t6.trans (v1.trans u2)
  have h15:aL G6 G15:=v1.trans u2
  clear u2 u3 u4 u5 u6 u7 u8 u9 f1 f2 f3 f4 f5 f6 f7 f8 f9
  have v10:aL G15 (upd G15 r10 (.lst [V.non,.ref r1,.ref r3,.ref r6,.ref r8,.str "work",.int 7,.ref r9])):=aI n10
  have f10:(upd G15 r10 (.lst [V.non,.ref r1,.ref r3,.ref r6,.ref r8,.str "work",.int 7,.ref r9])) r10=some (.lst [V.non,.ref r1,.ref r3,.ref r6,.ref r8,.str "work",.int 7,.ref r9]):=aB
  have al:∀v ∈ [V.non,.ref r1,.ref r3,.ref r6,.ref r8,.str "work",.int 7,.ref r9],gD (upd G15 r10 (.lst [V.non,.ref r1,.ref r3,.ref r6,.ref r8,.str "work",.int 7,.ref r9])) v false:=fun v hv=>(al0 v hv).same v10
  clear al0
  generalize upd G15 r10 (.lst [V.non,.ref r1,.ref r3,.ref r6,.ref r8,.str "work",.int 7,.ref r9])=G16 at v10 f10 al ⊢
  generalize [V.non,.ref r1,.ref r3,.ref r6,.ref r8,.str "work",.int 7,.ref r9]=odd at f10 al l8
  have t16:=t15.trans v10
  have ex16:=v10 _ _ (h15 _ _ ex)
  obtain⟨bd,hbd,ebd⟩:=uV (l:=odd) (i:=x3 / 3 % 8) (Int.emod_nonneg _ (by decide)) (by rw [l8];exact Int.emod_lt_of_pos _ (by decide))
  refine⟨_,rfl,lx,_,_,_,rfl,rfl,SqL.of ex16,aM (j:=3) rfl,_,_,rfl,rfl,⟨by decide,by decide⟩,_,_,rfl,rfl,(by show (0:Int)<8;decide),r10,_,_,_,rfl,rfl,SqL.of f10,ebd,?_⟩
  have nw:=al bd hbd
  clear al f10 l8
  refine⟨_,rfl,_,rfl,_,rfl,bl,lx,sp,ev,le,[x0,x1,x2,x3],rfl,t16 _ _ hbl,ex16,by show 3≤4;decide,hev,fun rb x y z G17 s17 e17 kx ky kz bad=>?_⟩
  refine⟨q,rb,wk,x,y,z,rfl,hw.same (t16.trans s17),wkk,by omega,e17,kx,ky,kz,bad,fun rr G18 s18 e18=>?_⟩
  refine⟨by show 3≤sizeLine;decide,fun r19 n19=>?_⟩
  have s19:aL G18 (upd G18 r19 (.lst [.bl false,.bl true,.bl false])):=aI n19
  refine⟨.list [.bool false,.bool true,.bool false],.list [.bool false,.bool true,.bool false],.lst (SqL.of (s19 _ _ e18)) (.cons (.bl _) (.cons (.bl _) (.cons (.bl _) .nil))),.lst (SqL.of aB) (.cons (.bl _) (.cons (.bl _) (.cons (.bl _) .nil))),by decide +kernel,by decide +kernel,_,rfl,gW (by decide +kernel) ?_⟩
  generalize upd G18 r19 (.lst [.bl false,.bl true,.bl false])=G19 at s19 ⊢
  have h19:=s17.trans (s18.trans s19)
  have t19:=t16.trans h19
  have nw19:=nw.same h19
  have ex19:=h19 _ _ ex16
  have hbl19:=t19 _ _ hbl
  refine⟨_,rfl,_,rfl,_,rfl,_,rfl,bl,lx,sp,ev,le,[x0,x1,x2,x3],rfl,hbl19,ex19,by show 3≤4;decide,hev,fun rb' x' y' z' G20 s20 e20 _ _ _ _=>?_⟩
  refine⟨by show 2≤sizeLine;decide,fun r21 n21=>?_⟩
  have s21:aL G20 (upd G20 r21 (.lst [.ref bl,.ref rb'])):=aI n21
  have e21:(upd G20 r21 (.lst [.ref bl,.ref rb'])) r21=some (.lst [.ref bl,.ref rb']):=aB
  generalize upd G20 r21 (.lst [.ref bl,.ref rb'])=G21 at s21 e21 ⊢
  have h21:=s20.trans s21
  have nw21:=nw19.same h21
  obtain⟨v,p1,p2,p3,av,hv⟩:∃v p1 p2 p3,atI [V.ref bl,.ref rb'] (x3 % 2)=some (.ref v)∧G21 v=some (.lst [p1,p2,p3]):=by
   obtain h|h:x3 % 2=0∨x3 % 2=1:=by omega
   ·exact⟨bl,_,_,_,by rw [h];exact aM (j:=0) rfl,h21 _ _ hbl19⟩
   ·exact⟨rb',_,_,_,by rw [h];exact aM (j:=1) rfl,s21 _ _ e20⟩
  refine⟨_,rfl,lx,_,_,_,rfl,rfl,SqL.of (h21 _ _ ex19),aM (j:=3) rfl,_,_,rfl,rfl,(by show (0:Int)<2;decide),r21,_,_,_,rfl,rfl,SqL.of e21,av,?_⟩
  refine⟨bd,p1,p2,p3,v,rfl,nw21,hv,fun rw' G22 s22 e22=>?_⟩
  refine⟨by show 3≤sizeLine;decide,fun r23 n23=>?_⟩
  have s23:aL G22 (upd G22 r23 (.lst [.bl true,.bl false,.bl false])):=aI n23
  refine⟨.list [.bool true,.bool false,.bool false],.list [.bool true,.bool false,.bool false],.lst (SqL.of (s23 _ _ e22)) (.cons (.bl _) (.cons (.bl _) (.cons (.bl _) .nil))),.lst (SqL.of aB) (.cons (.bl _) (.cons (.bl _) (.cons (.bl _) .nil))),by decide +kernel,by decide +kernel,_,rfl,gW (by decide +kernel) ?_⟩
  exact⟨s5.trans (s6.trans (h15.trans (v10.trans (h19.trans (h21.trans (s22.trans s23)))))),_,_,_,rfl⟩
 ·rintro σ G5 ⟨s5,u10,u11,u12,rfl⟩
  have t5:=s4.trans s5
  have B5:=hbk.sameT (aL.toT t5)
  obtain⟨dx,hb5⟩:=B5.ob
  have tG5:=tG.same t5
  have tP5:=tP.same t5
  refine⟨_,rfl,b,dx,_,rfl,hb5,rfl,b,pw,sh,d,sp,ev,le,nn,nt,mo,ps,_,rfl,B5,(by rw [eR];omega),(jM wkk).imp Int.le_of_lt,tP5,fun rp G6 rs cs' k6 _ tP6 e6 pm so rows=>?_⟩
  have ec:=qQ (jM wkk) pm so
  subst ec
  have st:cT G5 G6:=by
   obtain⟨qs,e,_⟩:=tP5
   exact k6.toT e
  refine⟨_,rfl,_,_,eI.rdv ⟨rs,e6,rows⟩ lF,((hdl.same t5).sameT st).rdv lF,(nQ _).shaped (by decide),(nQ _).shaped (by decide),?_⟩
  rw [(nQ _).eqv]
  refine⟨_,rfl,eL ?_⟩
  exact⟨rfl,tG5.keep nT tP5 k6,tP6,nT,fin⟩
end
end Ls
namespace Ls
open PySem L2 PySem.W
theorem cW.sameT {H H':Hp} {p:Addr} {a:Lm.Ps} (e:cT H H') (h:cW H p a):cW H' p a:=by
 obtain⟨xs,h1,h2⟩:=h
 exact⟨xs,e.at h1,bV (fun _ _ ⟨b,z1,z2⟩=>⟨b,z1,e.at z2⟩) h2⟩
theorem cR.sameT {C:Addr} {H H':Hp} {p pw d:Addr} {ws:Lm.Ps} {kvs:List (Key × V)} (e:cT H H') (h:cR C H p pw d ws kvs):cR C H' p pw d ws kvs:=by
 obtain⟨⟨dx,h1⟩,h2,h3⟩:=h
 exact⟨⟨dx,e.at h1⟩,h2.sameT e,e.at h3⟩
theorem dY.trans {T:Addr} {H H1 H2:Hp} (a:dY T H H1) (b:dY T H1 H2):dY T H H2:=fun c o n e=>b c o n (a c o n e)
theorem wT:∀a:Lm.Ps,Lm.sz a=(a.map fun q=>q.2-q.1).sum
 | []=>rfl
 | p::t=>by
  show p.2-p.1+Lm.sz t=_
  rw [wT t,List.map_cons,List.sum_cons]
theorem sz_same {a b:Lm.Ps} (ha:Lm.Wk a) (hb:Lm.Wk b) (h:∀x,Lm.mem a x↔Lm.mem b x):Lm.sz a=Lm.sz b:=by
 have:=Lm.sz_both (a:=b) (b:=[]) (e:=a) (c:=[]) hb trivial ha trivial (fun x=>by rw [Lm.mem_nil,or_false];exact h x) (fun x=>by rw [Lm.mem_nil,and_false])
 show Lm.sz a=Lm.sz b
 have z:Lm.sz []=0:=rfl
 omega
theorem yM:∀{a:Lm.Ps},Lm.Sh a→∀(k:Nat) (p q:Int × Int),a[k]?=some p→a[k+1]?=some q→p.2<q.1
 | [],_,k,p,q,h,_=>by simp at h
 | x::t,s,0,p,q,h,h'=>by
  cases (show x=p by simpa using h)
  exact s.2.1 q (List.mem_of_getElem? (by simpa using h'))
 | x::t,s,k+1,p,q,h,h'=>yM s.2.2 k p q (by simpa using h) (by simpa using h')
theorem sqlT {K:Frag} {H H':Hp} {a:Addr} {xs:List V} (h:SqL K H a xs) (e:cT H H'):SqL K H' a xs:=by
 rcases h with (h|⟨o,h⟩)|h
 ·exact .inl (.inl (e.at h))
 ·exact .inl (.inr ⟨o,e.at h⟩)
 ·exact .inr h
theorem ndOne:(["_law_one"]:List Str).Nodup:=by decide +kernel
theorem ndKL:(["_law_k","_law_left"]:List Str).Nodup:=by decide +kernel
theorem zA:(["_law_low","_law_high"]:List Str).Nodup:=by decide +kernel
theorem zX (n:Nat):(List.replicate n true).all id=true:=by simp
theorem tD:Holds (fun _=>0) [] []:=⟨rfl,.nil,by decide,fun x h=>absurd h (by simp),fun x h=>absurd h (by simp)⟩
section
variable {P:Program} {w:World} {K:PySem.W.Frag} {mg:Str→Option Value} {base:Heap}
theorem ok_mid {f CB CS CP TG TP fD fB fR fP fG fA fN fS fL:Addr} {fdD fdB fdR fdP fdG fdA fdN fdS fdL:FuncData} (G:Gb mg) (TB:Bl K mg CB)
  (GD:aK P w K mg base CX0 10 fD fdD ["_law_cell","_law_many"] jD) (kD:keepIn K (.ref fD)=true) (bD:aP K fdD ["_law_cell","_law_many"] []) (mD:mg "_law_draws"=some (.ref fD))
  (GB:aK P w K mg base CX0 10 fB fdB ["_law_bounds","_law_xs"] pU) (kB:keepIn K (.ref fB)=true) (bB:aP K fdB ["_law_bounds","_law_xs"] []) (mB:mg "_law_bad_bounds"=some (.ref fB))
  (GR:aK P w K mg base CX0 10 fR fdR ["_law_work_here","_law_bounds"] pO) (GW:aK P w K mg base CX0 10 fR fdR ["_law_work_here","_law_bounds"] pN) (kR:keepIn K (.ref fR)=true) (bR:aP K fdR ["_law_work_here","_law_bounds"] []) (mR:mg "_law_refused"=some (.ref fR))
  (GP:aK P w K mg base CX0 10 fP fdP ["self"] (gY CB CP TP)) (bP:aP K fdP ["self"] []) (mP:cJ K CB "pieces" fP)
  (GG:aK P w K mg base CX0 10 fG fdG [] (iR TG TP)) (kG:keepIn K (.ref fG)=true) (bG:aP K fdG [] []) (mG:mg "_law_great_books"=some (.ref fG))
  (GA:aK P w K mg base CX0 10 fA fdA ["self"] (oA CB CS fun vs H Q _=>sE (fun _=>0) CS vs H Q E0)) (bA:aP K fdA ["self"] []) (mA:cJ K CB "all_results" fA)
  (GN:aK P w K mg base CX0 10 fN fdN ["self"] (yI CB)) (bN:aP K fdN ["self"] []) (mN:cJ K CB "moment_now" fN)
  (GS:aK P w K mg base CX0 10 fS fdS ["self"] (uC CB)) (bS:aP K fdS ["self"] []) (mS:cJ K CB "bounds" fS)
  (GL:aK P w K mg base CX0 10 fL fdL ["self"] (oA CB CS fun vs H Q _=>lS CS vs H Q E0)) (bL:aP K fdL ["self"] []) (mL:cJ K CB "left_work" fL)
  {cdv:Value} {A:Around} {outer:List Env} {s:Shared} {H:Hp} {E:XK} (hr:Room 10 (A.deeper (PyProof.Rows.envOfC "law" (aH kE) s.heap.objs.size f cdv))):
  ∃t,PSs (kO CX0 P w K mg base lawN "law" (aH kE) f cdv A outer s H E).nox ((aO kE).drop 6) t∧∀(D:jT) (a q bl b sh d dl pw' d':Addr) (sp ev le nn nt:Int) (ps:List Addr) (ns:List Int) (wk ws:Lm.Ps) (o2 o3 o7 o8 o9 o10 o11 o12:Option V) (G3:Hp),
   SqL K G3 a (ns.map V.int)→cW G3 q wk→Lm.Wk wk→wk.length≤4→G3 bl=some (.lst [.int sp,.int ev,.int le])→1≤ev→iO CB CP G3 b q sh d sp ev le nn nt 0 ps (pcs 0 wk)→cR CS G3 sh pw' d' ws []→Lm.Sh ws→(∀x,Lm.mem ws x↔Lm.mem wk x)→ws.length≤wk.length →
   eI G3 dl (pcs 0 wk)→Tab G3 TG rQ jA→Tab G3 TP pPos oF→TG≠TP →
   (∀G9,D.rt (.bl true) G9)→t D [some (.ref a),some (.ref q),o2,o3,some (.ref bl),some (.ref b),some (.ref dl),o7,o8,o9,o10,o11,o12] G3:=by
 obtain⟨tR,pR,hR⟩:=ok_end (f:=f) (cdv:=cdv) (A:=A) (outer:=outer) (s:=s) (H:=H) (E:=E) G TB GD kD bD mD GB kB bB mB GR GW kR bR mR GP bP mP GG kG bG mG hr
 refine⟨_,aF (eG PassesOwn.never rfl (iC rfl G.range (aA aD aE)) (bX (i:=7) hG.nd rfl (Or.inl rfl))
   (aF (bU (i:=8) hG.nd rfl (Or.inl rfl) (cN (pv 5) TB.cl mP GP hr bP .nil aY))
   (aF (cK (PW.pt (gK (cY (cX (aV cL (by rfl) G.isi dM (aA (pv 8) (aA (gM (v:=.ty "list") (by rfl) G.list uU rfl) aE)))))
     (gK (bZ (kL hr.units) (pv 8) (pv 6) (cA _))
     (eV (cY (cX (aV (lN rfl) (by rfl) G.all lO (aA (gL (NB:=["_law_one"]) (g:=dX 0) rfl (by decide +kernel) (by decide +kernel) (by decide +kernel) rfl (oX (pv 8)) (fun C s H fp pn=>bX (i:=0) ndOne rfl (Or.inl rfl) (.inr rfl)) (fun C s H fp pn=>eE)
      (fun C s H fp pn=>aV (r:=uH K) cL (by rfl) G.isi dM (aA (pv 0) (aA (gM (v:=.ty "tuple") (by rfl) G.tuple fJ rfl) aE)))) aE)))))))) cC aZ)
   (aF (cK (PW.pt (gK (bZ (kL hr.units) (cN (pv 5) TB.cl mA GA hr bA .nil aY) (dG aE) (cA _))
     (gK (bZ vO (cN (pv 5) TB.cl mN GN hr bN .nil aY) aD (cA _))
     (eV (bZ (kL hr.units) (cN (pv 5) TB.cl mS GS hr bS .nil aY) (aS yY (cF (aA (pv 1) aE)) (dJ dA (by rfl) G.tuple fJ (aA (pv 4) aE))) (cA _)))))) cC aZ)
   (aF (cU (oC PySem.F.plainAttrs_list PySem.F.slot_list_append PySem.F.type_list_append dN (pv 8) (aA eZ aE)))
   (aJ (cU (oC PySem.F.plainAttrs_list PySem.F.slot_list_append PySem.F.type_list_append dN (cN (pv 5) TB.cl mA GA hr bA .nil aY) (aA eZ aE)))))))))
  (aF (bU (i:=9) hG.nd rfl (Or.inr rfl) (cN (pv 5) TB.cl mL GL hr bL .nil aY))
  (aF (cK (cY (cX (aV (lN rfl) (by rfl) G.all lO (aA (lE (NB:=["_law_k","_law_left"]) (n:=1) (js:=[9]) (g:=dX 0) (cl:=[("_law_left",s.heap.objs.size+1+1)]) rfl (by decide +kernel) (by decide +kernel) rfl
    (iJ.of rfl (aN rfl cO) (aN (fun z=>nomatch z) (aN (fun z=>nomatch z) (aN (fun _=>rfl) cO))) rfl
     (fun k j h=>match k,j,h with|0,_,rfl=>rfl|k+1,_,h=>absurd h (by simp)) (aN ⟨.inl rfl,.inl rfl,rfl⟩ cO))
    (jK rfl G.range (aA aD (aA (aV cD (by rfl) G.len PySem.boot_len (aA (pv 9) aE)) aE))) (fun C s H fp pn=>bX (i:=0) ndKL rfl (Or.inl rfl) (.inr rfl)) (fun C s H fp pn=>eE)
    (fun C s H fp pn=>fU eU (aX (r:=kI K) cI (aX (r:=kI K) cI (pv 1) (aS gC (pv 0) aD) (fun _ _=>rfl)) aD (fun _ _=>rfl)) (aX (r:=kI K) cI (aX (r:=kI K) cI (pv 1) (pv 0) (fun _ _=>rfl)) aD (fun _ _=>rfl)) (cA _))) aE)))) cC aZ)
  (aF (cK (bZ vO (aV (wL rfl) (by rfl) G.sum wM (aA (gL (NB:=["_law_low","_law_high"]) (g:=gTup K 2 (lK (dX 0) (lK (dX 1) gNil))) rfl (by decide +kernel) (by decide +kernel) (by decide +kernel) rfl (gQ (pv 9)) (fun C s H fp pn=>iH (n:=2) rfl (cS (bX (i:=0) zA rfl (Or.inl rfl) (.inr rfl)) (cS (bX (i:=1) zA rfl (Or.inl rfl) (.inr rfl)) fQ))) (fun C s H fp pn=>eE)
     (fun C s H fp pn=>aS gC (pv 1) (pv 0))) aE))
    (aV (wL rfl) (by rfl) G.sum wM (aA (gL (NB:=["_law_low","_law_high"]) (g:=gTup K 2 (lK (dX 0) (lK (dX 1) gNil))) rfl (by decide +kernel) (by decide +kernel) (by decide +kernel) rfl (gQ (pv 1)) (fun C s H fp pn=>iH (n:=2) rfl (cS (bX (i:=0) zA rfl (Or.inl rfl) (.inr rfl)) (cS (bX (i:=1) zA rfl (Or.inl rfl) (.inr rfl)) fQ))) (fun C s H fp pn=>eE)
     (fun C s H fp pn=>aS gC (pv 1) (pv 0))) aE)) (cA _)) cC aZ)
  pR))),?_⟩
 intro D a q bl b sh d dl pw' d' sp ev le nn nt ps ns wk ws o2 o3 o7 o8 o9 o10 o11 o12 G3 hS hw wkk lw hbl hev hbk hsh shw memw lws hdl tG tP nT fin
 have sl:sizeLine=16777216:=sizeLine_eq
 refine⟨2,rfl,by decide,by decide,iE (lo:=0) (n:=2) (fun i σ G=>dY TP G3 G∧Tab G TP pPos oF∧∃o7 o8,σ=[some (.ref a),some (.ref q),o2,o3,some (.ref bl),some (.ref b),some (.ref dl),o7,o8,o9,o10,o11,o12]) ⟨fun _ _ _ e=>e,tP,_,_,rfl⟩ ?_ ?_⟩
 ·rintro i σ G4 hi ⟨k4,tP4,u7,u8,rfl⟩
  have st4:cT G3 G4:=by
   obtain⟨qs,e,_⟩:=tP
   exact k4.toT e
  refine dD ?_
  have B4:=hbk.sameT st4
  obtain⟨dx,hb4⟩:=B4.ob
  refine⟨_,rfl,b,dx,_,rfl,hb4,rfl,b,q,sh,d,sp,ev,le,nn,nt,0,ps,_,rfl,B4,(by rw [eR];omega),(jM wkk).imp Int.le_of_lt,tP4,fun rp G5 rs cs' k5 nrp tP5 e5 pm so rows=>?_⟩
  have ec:=qQ (jM wkk) pm so
  subst ec
  have nr3:G3 rp=none:=by
   obtain⟨qs,e,_⟩:=tP4
   exact k4.free e nrp
  have k35:=dY.trans k4 k5
  have st5:cT G3 G5:=by
   obtain⟨qs,e,_⟩:=tP
   exact k35.toT e
  obtain⟨tt,ty,ek⟩:∃t,iL K G5 (.ref rp) t∧kitOne K t (.type "list")=some true:=⟨_,.lst e5,by rfl⟩
  refine⟨_,rfl,_,_,_,_,rfl,.ty "list",.inl ⟨tt,ty,ek⟩,_,rfl,?_⟩
  refine dS ?_
  refine⟨_,rfl,_,rfl,_,_,eI.rdv ⟨rs,e5,rows⟩ lF,(hdl.sameT st5).rdv lF,(nQ _).shaped (by decide),(nQ _).shaped (by decide),_,rfl,?_⟩
  rw [(nQ _).eqv]
  refine dS ?_
  have lr:rs.length≤4:=by rw [rows.length,eR];exact lw
  refine⟨_,rfl,rp,rfl,⟨_,SqL.of e5⟩,fun acc hacc=>?_⟩
  refine⟨fun i m ys H'=>m=rs.length-i∧i≤rs.length∧ys=(List.replicate i true).map V.bl∧aL G5 H'∧H' acc=some (.lst ys),⟨_,rfl,Nat.zero_le _,rfl,aI hacc,aB⟩,?_⟩
  rintro j m ys H' ⟨rfl,hj,rfl,sm,hA⟩
  refine⟨hA,?_⟩
  by_cases hlt:j<rs.length
  ·refine .inr ⟨⟨rs,_,SqL.of (sm _ _ e5),List.getElem?_eq_getElem hlt⟩,?_⟩
   rintro y H'' ⟨rfl,hy⟩
   have ey:=hy rs (SqL.of (sm _ _ e5))
   obtain⟨pc,_,t',lv,rfl,ht',_⟩:=bO rows ey
   refine dD ?_
   refine eB ?_
   refine eL ?_
   obtain⟨t2,ty2,e2⟩:=lQ (K:=K) (sm _ _ ht')
   refine⟨_,rfl,_,_,_,_,rfl,.ty "tuple",.inl ⟨t2,ty2,e2⟩,hA,by rw [List.length_map,List.length_replicate];omega,_,?_,rfl,hlt,?_,fun b o z=>?_,aB⟩
   ·omega
   ·rw [List.replicate_succ',List.map_append]
    rfl
   ·rw [aC (aG z hacc)]
    exact sm _ _ z
  refine .inl ⟨⟨rs,SqL.of (sm _ _ e5),by omega⟩,?_⟩
  refine⟨acc,_,rfl,SqL.of hA,_,rfl,?_⟩
  rw [zX]
  refine dS ?_
  have st6:cT G3 H':=st5.trans (aL.toT sm)
  obtain⟨dx6,hb6⟩:=(hbk.sameT st6).ob
  refine⟨_,rfl,b,dx6,_,rfl,hb6,rfl,b,q,sh,d,pw',d',sp,ev,le,nn,nt,0,ws,[],rfl,⟨dx6,hb6⟩,hsh.sameT st6,sh,pw',d',ws,[],[],rfl,hsh.sameT st6,tD,fun ra ds xs G7 s7 nra e7 pa _ _ lds=>?_⟩
  have ed:ds=[]:=List.eq_nil_of_length_eq_zero (by simpa using lds)
  subst ed
  cases pa
  refine⟨by show 0≤sizeLine;exact Nat.zero_le _,fun r8 n8=>?_⟩
  have s8:aL G7 (upd G7 r8 (.lst [])):=aI n8
  have e8:(upd G7 r8 (.lst [])) r8=some (.lst []):=aB
  generalize upd G7 r8 (.lst [])=G8 at s8 e8 ⊢
  refine⟨.list [],.list [],.lst (SqL.of (s8 _ _ e7)) .nil,.lst (SqL.of e8) .nil,(Gd.lst (n:=0) nU).shaped (by decide),(Gd.lst (n:=0) nU).shaped (by decide),_,rfl,?_⟩
  rw [(Gd.lst (n:=0) nU).eqv]
  refine dS ?_
  have st8:cT G3 G8:=st6.trans (aL.toT (s7.trans s8))
  obtain⟨dx8,hb8⟩:=(hbk.sameT st8).ob
  refine⟨_,rfl,b,dx8,_,rfl,hb8,rfl,b,q,sh,d,sp,ev,le,nn,nt,0,rfl,⟨dx8,hb8⟩,rfl,_,rfl,dS ?_⟩
  refine⟨_,rfl,b,dx8,_,rfl,hb8,rfl,b,q,sh,d,sp,ev,le,nn,nt,0,rfl,⟨dx8,hb8⟩,fun r9 n9=>?_⟩
  have s9:aL G8 (upd G8 r9 (.tup [.ref q,.int sp,.int ev,.int le])):=aI n9
  have e9:(upd G8 r9 (.tup [.ref q,.int sp,.int ev,.int le])) r9=some (.tup [.ref q,.int sp,.int ev,.int le]):=aB
  generalize upd G8 r9 (.tup [.ref q,.int sp,.int ev,.int le])=G9 at s9 e9 ⊢
  refine⟨_,rfl,by show 1≤sizeLine;decide,fun r10 n10=>?_⟩
  have s10:aL G9 (upd G9 r10 (.tup [.ref q])):=aI n10
  have e10:(upd G9 r10 (.tup [.ref q])) r10=some (.tup [.ref q]):=aB
  generalize upd G9 r10 (.tup [.ref q])=G10 at s10 e10 ⊢
  have st10:cT G3 G10:=st8.trans (aL.toT (s9.trans s10))
  refine⟨_,rfl,bl,_,rfl,.inl ⟨SqL.of (st10.at hbl),fun r11 n11=>?_⟩⟩
  have s11:aL G10 (upd G10 r11 (.tup [.int sp,.int ev,.int le])):=aI n11
  have e11:(upd G10 r11 (.tup [.int sp,.int ev,.int le])) r11=some (.tup [.int sp,.int ev,.int le]):=aB
  generalize upd G10 r11 (.tup [.int sp,.int ev,.int le])=G11 at s11 e11 ⊢
  refine⟨r10,r11,_,_,rfl,rfl,s11 _ _ e10,e11,by show 4≤sizeLine;decide,fun r12 G12 s12 e12=>?_⟩
  have s912:=s10.trans (s11.trans s12)
  have st12:cT G3 G12:=st10.trans (aL.toT (s11.trans s12))
  have hw12:=hw.sameT st12
  have gd:Gd 3 (.tuple [workD wk,.int sp,.int ev,.int le]):=Gd.tup (eN (Gd.tup (AdY (n:=0) wk)) (eN (Gd.int _) (eN (Gd.int _) (eN (Gd.int _) nU))))
  refine⟨_,_,.tup (SqT.of (s912 _ _ e9)) (.cons (vC hw12) (.cons (.int _) (.cons (.int _) (.cons (.int _) .nil)))),.tup (SqT.of e12) (.cons (vC hw12) (.cons (.int _) (.cons (.int _) (.cons (.int _) .nil)))),gd.shaped (by decide),gd.shaped (by decide),_,rfl,?_⟩
  rw [gd.eqv]
  refine dS ?_
  have s512:aL G5 G12:=sm.trans (s7.trans (s8.trans (s9.trans s912)))
  have e5':=s512 _ _ e5
  refine⟨_,rfl,.inl ⟨rfl,_,SqL.of e5'⟩,rp,rs,.non,rfl,rfl,e5',by omega,?_⟩
  have k13:dY TP G3 (upd G12 rp (.lst (rs++[.non]))):=fun b o n e=>by
   rw [aC (aG e nr3)]
   exact s512 _ _ (k35 _ _ n e)
  have tP13:Tab (upd G12 rp (.lst (rs++[.non]))) TP pPos oF:=(tP5.same s512).mv fun b o e h=>by
   rw [aC (aW e e5' (by rcases h with ⟨ps,rfl⟩|⟨c,q,rfl⟩ <;> intro z <;> cases z))]
   exact e
  generalize upd G12 rp (.lst (rs++[.non]))=G13 at k13 tP13 ⊢
  have st13:cT G3 G13:=by
   obtain⟨qs,e,_⟩:=tP
   exact k13.toT e
  obtain⟨dx13,hb13⟩:=(hbk.sameT st13).ob
  refine⟨_,rfl,b,dx13,_,rfl,hb13,rfl,b,q,sh,d,pw',d',sp,ev,le,nn,nt,0,ws,[],rfl,⟨dx13,hb13⟩,hsh.sameT st13,sh,pw',d',ws,[],[],rfl,hsh.sameT st13,tD,fun ra ds xs G14 s14 nra e14 pa _ _ lds=>?_⟩
  have ed:ds=[]:=List.eq_nil_of_length_eq_zero (by simpa using lds)
  subst ed
  cases pa
  refine⟨.inl ⟨rfl,_,SqL.of e14⟩,ra,_,.non,rfl,rfl,e14,by show 0<sizeLine;decide,?_⟩
  have nra3:G3 ra=none:=by
   obtain⟨qs,e,_⟩:=tP13
   exact k13.free e nra
  refine⟨fun b o n e=>?_,(tP13.same s14).mv fun b o e h=>?_,_,_,rfl⟩
  ·rw [aC (aG e nra3)]
   exact s14 _ _ (k13 _ _ n e)
  ·rw [aC (aW e e14 (by rcases h with ⟨ps,rfl⟩|⟨c,q,rfl⟩ <;> intro z <;> cases z))]
   exact e
 ·rintro σ G4 ⟨k4,tP4,u7,u8,rfl⟩
  have st4:cT G3 G4:=by
   obtain⟨qs,e,_⟩:=tP
   exact k4.toT e
  obtain⟨dx4,hb4⟩:=(hbk.sameT st4).ob
  refine⟨_,rfl,b,dx4,_,rfl,hb4,rfl,b,q,sh,d,pw',d',sp,ev,le,nn,nt,0,ws,[],rfl,⟨dx4,hb4⟩,hsh.sameT st4,sh,pw',d',ws,[],[],rfl,hsh.sameT st4,shw,by omega,rfl,.nil,by decide,fun rl ds G5 s5 hrl sds mds lds=>?_⟩
  have mds':∀x,Lm.mem ds x↔Lm.mem wk x:=fun x=>(mds x).trans (by simpa using memw x)
  have ld4:ds.length≤4:=by simp at lds;omega
  obtain⟨xs,x1,x2⟩:=id hrl
  have lx:xs.length=ds.length:=x2.length
  refine⟨_,rfl,rl,_,rfl,.inr (SqT.of x1),1,_,rfl,⟨by decide,by decide,by omega,by omega⟩,fun acc hacc=>?_⟩
  refine⟨fun i m ys H'=>m=((xs.length:Int)-1).toNat-i∧i≤((xs.length:Int)-1).toNat∧ys=(List.replicate i true).map V.bl∧aL G5 H'∧H' acc=some (.lst ys),⟨_,rfl,Nat.zero_le _,rfl,aI hacc,aB⟩,?_⟩
  rintro j m ys H' ⟨rfl,hj,rfl,sm,hA⟩
  refine⟨hA,?_⟩
  by_cases hlt:j<((xs.length:Int)-1).toNat
  ·refine .inr ⟨hlt,?_⟩
   rintro y H'' ⟨rfl,rfl⟩
   have h0:j<ds.length:=by omega
   have h1:j+1<ds.length:=by omega
   obtain⟨b0,c01,c02⟩:=lG x2 h0
   obtain⟨b1,c11,c12⟩:=lG x2 h1
   have nx:=yM sds j _ _ (List.getElem?_eq_getElem h0) (List.getElem?_eq_getElem h1)
   have z0:(1:Int)+(j:Int)-1=(j:Int):=by omega
   have z1:(1:Int)+(j:Int)=((j+1:Nat):Int):=by omega
   refine dD ⟨rfl,?_⟩
   refine eB ?_
   refine eL ?_
   refine⟨_,rfl,_,rfl,_,_,rfl,rfl,rl,xs,_,_,rfl,rfl,SqT.of (sm _ _ x1),(by rw [z0];exact aM c01),b0,_,_,_,rfl,rfl,SqT.of (sm _ _ c02),aM (j:=1) rfl,_,rfl,_,rfl,rl,xs,_,_,rfl,rfl,SqT.of (sm _ _ x1),(by rw [z1];exact aM c11),b1,_,_,_,rfl,rfl,SqT.of (sm _ _ c12),aM (j:=0) rfl,_,_,rfl,rfl,?_⟩
   refine⟨hA,by rw [List.length_map,List.length_replicate];omega,_,?_,rfl,hlt,?_,fun b o z=>?_,aB⟩
   ·omega
   ·show _++[V.bl (decide (ds[j].2<ds[j+1].1))]=_
    rw [decide_eq_true nx,List.replicate_succ',List.map_append]
    rfl
   ·rw [aC (aG z hacc)]
    exact sm _ _ z
  refine .inl ⟨by show ((xs.length:Int)-1).toNat≤j;omega,?_⟩
  refine⟨acc,_,rfl,SqL.of hA,_,rfl,?_⟩
  rw [zX]
  refine dS ?_
  clear hA hacc
  have x1':=sm _ _ x1
  refine⟨_,rfl,rl,rfl,⟨_,SqT.of x1'⟩,fun acc2 hacc2=>?_⟩
  refine⟨fun i m ys H2=>m=xs.length-i∧i≤xs.length∧ys=((ds.take i).map fun q=>q.2-q.1).map V.int∧aL H' H2∧H2 acc2=some (.lst ys),⟨_,rfl,Nat.zero_le _,rfl,aI hacc2,aB⟩,?_⟩
  rintro i m ys H2 ⟨rfl,hi,rfl,sm2,hA2⟩
  refine⟨hA2,?_⟩
  by_cases hlt2:i<xs.length
  ·refine .inr ⟨⟨xs,_,SqT.of (sm2 _ _ x1'),List.getElem?_eq_getElem hlt2⟩,?_⟩
   rintro y H'' ⟨rfl,hy⟩
   have ey:=hy xs (SqT.of (sm2 _ _ x1'))
   obtain⟨q',hq,b',rfl,hb'⟩:=bO x2 ey
   refine⟨b',_,rfl,SqT.of (sm2 _ _ (sm _ _ hb')),rfl,_,_,rfl,_,_,rfl,rfl,?_⟩
   refine eB ?_
   refine eL ?_
   refine⟨_,rfl,_,rfl,_,_,rfl,rfl,hA2,by rw [List.length_map,List.length_map,List.length_take];omega,_,?_,rfl,hlt2,?_,fun b o z=>?_,aB⟩
   ·omega
   ·rw [List.take_add_one,hq]
    simp
   ·rw [aC (aG z hacc2)]
    exact sm2 _ _ z
  refine .inl ⟨⟨xs,SqT.of (sm2 _ _ x1'),by omega⟩,?_⟩
  have ei:ds.take i=ds:=List.take_of_length_le (by omega)
  rw [ei] at hA2
  refine⟨acc2,ds.map fun q=>q.2-q.1,rfl,SqL.of hA2,?_⟩
  rw [← wT]
  have s42:aL G4 H2:=s5.trans (sm.trans sm2)
  have st2:cT G3 H2:=st4.trans (aL.toT s42)
  obtain⟨zs,z1,z2⟩:=id (hw.sameT st2)
  have lz:zs.length=wk.length:=z2.length
  refine⟨_,rfl,q,rfl,⟨_,SqT.of z1⟩,fun acc3 hacc3=>?_⟩
  refine⟨fun i m ys H3=>m=zs.length-i∧i≤zs.length∧ys=((wk.take i).map fun q=>q.2-q.1).map V.int∧aL H2 H3∧H3 acc3=some (.lst ys),⟨_,rfl,Nat.zero_le _,rfl,aI hacc3,aB⟩,?_⟩
  rintro i3 m ys H3 ⟨rfl,hi3,rfl,sm3,hA3⟩
  refine⟨hA3,?_⟩
  by_cases hlt3:i3<zs.length
  ·refine .inr ⟨⟨zs,_,SqT.of (sm3 _ _ z1),List.getElem?_eq_getElem hlt3⟩,?_⟩
   rintro y H'' ⟨rfl,hy⟩
   have ey:=hy zs (SqT.of (sm3 _ _ z1))
   obtain⟨q',hq,b',rfl,hb'⟩:=bO z2 ey
   refine⟨b',_,rfl,SqT.of (sm3 _ _ hb'),rfl,_,_,rfl,_,_,rfl,rfl,?_⟩
   refine eB ?_
   refine eL ?_
   refine⟨_,rfl,_,rfl,_,_,rfl,rfl,hA3,by rw [List.length_map,List.length_map,List.length_take];omega,_,?_,rfl,hlt3,?_,fun b o z=>?_,aB⟩
   ·omega
   ·rw [List.take_add_one,hq]
    simp
   ·rw [aC (aG z hacc3)]
    exact sm3 _ _ z
  refine .inl ⟨⟨zs,SqT.of (sm3 _ _ z1),by omega⟩,?_⟩
  have ei3:wk.take i3=wk:=List.take_of_length_le (by omega)
  rw [ei3] at hA3
  refine⟨acc3,wk.map fun q=>q.2-q.1,rfl,SqL.of hA3,?_⟩
  rw [← wT]
  refine⟨rfl,_,rfl,iteNS (congrArg V.int (sz_same sds.wk wkk mds')) ?_⟩
  have s43:aL G4 H3:=s42.trans sm3
  have st3:cT G3 H3:=st4.trans (aL.toT s43)
  have tG4:=tG.keep nT tP k4
  exact hR D a q bl b q sh d dl sp ev le nn nt 0 ps ns wk _ _ _ _ _ _ _ _ H3 (s43.seq (sqlT hS st4)) (hw.sameT st3) wkk lw (st3.at hbl) hev (hbk.sameT st3) (hdl.sameT st3) (tG4.same s43) (tP4.same s43) nT fin
end
end Ls
namespace Ls
open PySem L2 PySem.W
theorem rJ.far {ps:List (Int × Int)} (r:rJ ps):∀(d k:Nat) (l h l' h':Int),ps[k]?=some (l,h)→ps[k+1+d]?=some (l',h')→h≤l'
 | 0,k,l,h,l',h',e1,e2=>r.up k l h l' h' e1 e2
 | d+1,k,l,h,l',h',e1,e2=>by
  have hk:k+1+d<ps.length:=by
   have:=(List.getElem?_eq_some_iff.mp e2).1
   omega
  have e3:ps[k+1+d]?=some ps[k+1+d]:=List.getElem?_eq_getElem hk
  have h1:=r.far d k l h _ _ e1 e3
  have h2:=r.lt _ _ _ e3
  have h3:=r.up (k+1+d) _ _ l' h' e3 e2
  omega
theorem yP:∀{ps:Lm.Ps},rJ ps→Lm.Wk ps
 | [],_=>trivial
 | p::t,r=>by
  refine⟨r.lt 0 p.1 p.2 rfl,fun q hq=>?_,yP (ps:=t) ⟨fun k l h z=>r.lt (k+1) l h z,fun k l h l' h' z1 z2=>r.up (k+1) l h l' h' z1 z2,fun k l h z=>r.lo (k+1) l h z,by have:=r.few;rw [List.length_cons] at this;omega⟩⟩
  obtain⟨d,hd,rfl⟩:=List.getElem_of_mem hq
  refine r.far d 0 p.1 p.2 t[d].1 t[d].2 rfl ?_
  rw [show 0+1+d=d+1 by omega]
  show t[d]?=_
  rw [List.getElem?_eq_getElem hd]
theorem yG {H:Hp} {T:Addr} {pos:Pos} {q:Str} (h:H T=some (.tbl #[])):Tab H T pos q:=⟨#[],h,trivial,.inl rfl⟩
theorem ndKW:(["_law_k","_law_work_here"]:List Str).Nodup:=by decide +kernel
def yJ (K:Frag) (TG TP:Addr):Sp:=fun vs H Q _=>∃(a:Addr) (ns:List Int),vs=[.ref a]∧SqL K H a (ns.map V.int)∧ns.length≤63∧H TG=some (.tbl #[])∧H TP=some (.tbl #[])∧∀H',Q (.bl true) H'
section
variable {P:Program} {w:World} {K:PySem.W.Frag} {mg:Str→Option Value} {base:Heap}
theorem ok_law {f fC fM fI CB CS CP TG TP fD fB fR fP fG fA fN fS fL:Addr} {fd fdC fdM fdI fdD fdB fdR fdP fdG fdA fdN fdS fdL:FuncData} (F:Fun K "law" "law" kE f fd) (G:Gb mg) (TB:Bl K mg CB) (nT:TG≠TP)
  (GC:aK P w K mg base CX0 10 fC fdC ["_law_script","_law_k"] (xC K)) (kC:keepIn K (.ref fC)=true) (bC:aP K fdC ["_law_script","_law_k"] []) (mC:mg "_law_cell_at"=some (.ref fC))
  (GM:aK P w K mg base CX0 10 fM fdM ["_law_cell"] wW) (kM:keepIn K (.ref fM)=true) (bM:aP K fdM ["_law_cell"] []) (mM:mg "_law_work"=some (.ref fM))
  (GI:aK P w K mg base CX0 9 fI fdI ["self","work","span","every","least"] (oU CB CS CP)) (bI:aP K fdI ["self","work","span","every","least"] []) (MK:Mk K CB fI)
  (GD:aK P w K mg base CX0 10 fD fdD ["_law_cell","_law_many"] jD) (kD:keepIn K (.ref fD)=true) (bD:aP K fdD ["_law_cell","_law_many"] []) (mD:mg "_law_draws"=some (.ref fD))
  (GB:aK P w K mg base CX0 10 fB fdB ["_law_bounds","_law_xs"] pU) (kB:keepIn K (.ref fB)=true) (bB:aP K fdB ["_law_bounds","_law_xs"] []) (mB:mg "_law_bad_bounds"=some (.ref fB))
  (GR:aK P w K mg base CX0 10 fR fdR ["_law_work_here","_law_bounds"] pO) (GW:aK P w K mg base CX0 10 fR fdR ["_law_work_here","_law_bounds"] pN) (kR:keepIn K (.ref fR)=true) (bR:aP K fdR ["_law_work_here","_law_bounds"] []) (mR:mg "_law_refused"=some (.ref fR))
  (GP:aK P w K mg base CX0 10 fP fdP ["self"] (gY CB CP TP)) (bP:aP K fdP ["self"] []) (mP:cJ K CB "pieces" fP)
  (GG:aK P w K mg base CX0 10 fG fdG [] (iR TG TP)) (kG:keepIn K (.ref fG)=true) (bG:aP K fdG [] []) (mG:mg "_law_great_books"=some (.ref fG))
  (GA:aK P w K mg base CX0 10 fA fdA ["self"] (oA CB CS fun vs H Q _=>sE (fun _=>0) CS vs H Q E0)) (bA:aP K fdA ["self"] []) (mA:cJ K CB "all_results" fA)
  (GN:aK P w K mg base CX0 10 fN fdN ["self"] (yI CB)) (bN:aP K fdN ["self"] []) (mN:cJ K CB "moment_now" fN)
  (GS:aK P w K mg base CX0 10 fS fdS ["self"] (uC CB)) (bS:aP K fdS ["self"] []) (mS:cJ K CB "bounds" fS)
  (GL:aK P w K mg base CX0 10 fL fdL ["self"] (oA CB CS fun vs H Q _=>lS CS vs H Q E0)) (bL:aP K fdL ["self"] []) (mL:cJ K CB "left_work" fL):
  aK P w K mg base CX0 11 f fd ["_law_script"] (yJ K TG TP):=by
 refine F.ok hG (fun vs H Q E h=>?_) (fun cdv A outer s H vs Q E hr h=>?_)
 ·obtain⟨a,ns,rfl,_⟩:=h
  rfl
 ·obtain⟨a,ns,rfl,hS,hl,hTG,hTP,q⟩:=h
  obtain⟨tR,pR,hR⟩:=ok_mid (f:=f) (cdv:=cdv) (A:=A) (outer:=outer) (s:=s) (H:=H) (E:=E) G TB GD kD bD mD GB kB bB mB GR GW kR bR mR GP bP mP GG kG bG mG GA bA mA GN bN mN GS bS mS GL bL mL hr
  refine⟨_,aF (bU (i:=1) hG.nd rfl (Or.inr rfl) (bJ GM hr rfl mM kM bM .nil aY (aA (bJ GC hr rfl mC kC bC .nil aY (aA (pv 0) (aA aD aE))) aE)))
   (aF (bU (i:=2) hG.nd rfl (Or.inl rfl) (bJ GD hr rfl mD kD bD .nil aY (aA (bJ GC hr rfl mC kC bC .nil aY (aA (pv 0) (aA aD aE))) (aA aD aE))))
   (aF (bU (i:=3) hG.nd rfl (Or.inl rfl) (aS cQ aD (aS dH (aX bE (pv 2) aD (fun _ _=>rfl)) (aX bE (dG (aA aD (aA (aS gC (aS fE aD aD) aD) aE))) (aS dH (aX bE (pv 2) aD (fun _ _=>rfl)) aD) (fun _ _=>rfl)))))
   (aF (bU (i:=4) hG.nd rfl (Or.inl rfl) (dG (aA (aS cQ aD (aS dH (aS oZ (aX bE (pv 2) aD (fun _ _=>rfl)) aD) (aX bE (dG (aA aD (aA (aS fE aD aD) aE))) (aS dH (aX bE (pv 2) aD (fun _ _=>rfl)) aD) (fun _ _=>rfl))))
     (aA (pv 3) (aA (aS cQ (pv 3) (aS dH (aX bE (pv 2) aD (fun _ _=>rfl)) aD)) aE)))))
   (aF (bU (i:=5) hG.nd rfl (Or.inl rfl) (iI MK GI hr rfl TB.mgC bI .nil aY (aA (pv 1) (aA (aX bE (pv 4) aD (fun _ _=>rfl)) (aA (aX bE (pv 4) aD (fun _ _=>rfl)) (aA (aX bE (pv 4) aD (fun _ _=>rfl)) aE))))))
   (aF (yR (ix:=6) hG.nd rfl (Or.inl rfl) (NB:=["_law_k","_law_work_here"]) (n:=1) (js:=[1]) (g:=dX 0) (cl:=[("_law_work_here",s.heap.objs.size+1)]) rfl (by decide +kernel) (by decide +kernel) rfl
     (iJ.of rfl (aN rfl cO) (aN (fun z=>nomatch z) (aN (fun z=>nomatch z) (aN (fun _=>rfl) cO))) rfl
      (fun k j h=>match k,j,h with|0,_,rfl=>rfl|k+1,_,h=>absurd h (by simp)) (aN ⟨.inl rfl,.inl rfl,rfl⟩ cO))
     (iC rfl G.range (aA (aV cD (by rfl) G.len PySem.boot_len (aA (pv 1) aE)) aE)) (fun C s H fp pn=>bX (i:=0) ndKW rfl (Or.inl rfl) (.inr rfl)) (fun C s H fp pn=>eE)
     (fun C s H fp pn=>cF (aA (pv 0) (aA (aX (r:=kI K) cI (aX (r:=kI K) cI (pv 1) (pv 0) (fun _ _=>rfl)) aD (fun _ _=>rfl)) (aA (aX (r:=kI K) cI (aX (r:=kI K) cI (pv 1) (pv 0) (fun _ _=>rfl)) aD (fun _ _=>rfl)) (aA (aX (r:=kI K) cI (aX (r:=kI K) cI (pv 1) (pv 0) (fun _ _=>rfl)) aD (fun _ _=>rfl)) (aA eZ aE)))))))
   pR))))),?_⟩
  have sl:sizeLine=16777216:=sizeLine_eq
  have pw9:CPow 10 9:=⟨by decide,by decide,by decide⟩
  have v9:(10:Int) ^ (9:Int).toNat=1000000000:=by decide
  refine⟨_,rfl,a,ns,0,rfl,hS,hl,fun c0=>⟨c0,rfl,fun p wk H1 s1 hw1=>?_⟩⟩
  refine⟨_,rfl,a,ns,1,rfl,s1.seq hS,hl,fun c1=>?_⟩
  refine⟨c1,3,rfl,by decide,fun lx xs H2 s2 lxs bx ex=>?_⟩
  obtain⟨x0,x1,x2,rfl⟩:∃x0 x1 x2,xs=[x0,x1,x2]:=by
   match xs,lxs with
   | [x0,x1,x2],_=>exact⟨x0,x1,x2,rfl⟩
  have b0:=bx x0 (by simp)
  have b1:=bx x1 (by simp)
  have b2:=bx x2 (by simp)
  refine⟨_,rfl,lx,_,_,_,rfl,rfl,SqL.of ex,aM (j:=0) rfl,_,_,rfl,rfl,pw9,_,_,rfl,rfl,by show 2≤sizeLine;decide,fun r3 n3=>?_⟩
  have s3:aL H2 (upd H2 r3 (.lst [.int 4,.int (10 ^ (9:Int).toNat-1)])):=aI n3
  have e3:(upd H2 r3 (.lst [.int 4,.int (10 ^ (9:Int).toNat-1)])) r3=some (.lst ([4,10 ^ (9:Int).toNat-1].map V.int)):=aB
  generalize upd H2 r3 (.lst [.int 4,.int (10 ^ (9:Int).toNat-1)])=H3 at s3 e3 ⊢
  have m0:=Int.emod_nonneg x1 (show (2:Int)≠0 by decide)
  have m1:=Int.emod_lt_of_pos x1 (show (0:Int)<2 by decide)
  obtain⟨y0,hy0,ey0⟩:=pick (ns:=[4,10 ^ (9:Int).toNat-1]) (i:=x1 % 2) m0 (by show x1 % 2<((2:Nat):Int);omega)
  have py0:0<y0:=by
   rcases List.mem_cons.mp hy0 with rfl|h
   ·decide
   ·rw [List.mem_singleton.mp h]
    decide
  refine⟨_,rfl,lx,_,_,_,rfl,rfl,SqL.of (s3 _ _ ex),aM (j:=1) rfl,_,_,rfl,rfl,(by show (0:Int)<2;decide),r3,_,_,_,rfl,rfl,SqL.of e3,ey0,_,_,rfl,rfl,py0,_,_,rfl,rfl,?_⟩
  have hev:1≤1+x0 % y0:=by have:=Int.emod_nonneg x0 (Int.ne_of_gt py0);omega
  show tSeq _ _ _ (List.set _ 3 (some (V.int (1+x0 % y0)))) _
  generalize 1+x0 % y0=ev at hev ⊢
  have ex3:=s3 _ _ ex
  refine⟨_,rfl,lx,_,_,_,rfl,rfl,SqL.of ex3,aM (j:=1) rfl,_,_,rfl,rfl,⟨by decide,by decide⟩,_,_,rfl,rfl,pw9,by show 2≤sizeLine;decide,fun r4 n4=>?_⟩
  have s4:aL H3 (upd H3 r4 (.lst [.int 5,.int (10 ^ (9:Int).toNat)])):=aI n4
  have e4:(upd H3 r4 (.lst [.int 5,.int (10 ^ (9:Int).toNat)])) r4=some (.lst ([5,10 ^ (9:Int).toNat].map V.int)):=aB
  generalize upd H3 r4 (.lst [.int 5,.int (10 ^ (9:Int).toNat)])=H4 at s4 e4 ⊢
  obtain⟨y1,hy1,ey1⟩:=pick (ns:=[5,10 ^ (9:Int).toNat]) (i:=x1 % 2) m0 (by show x1 % 2<((2:Nat):Int);omega)
  have py1:0<y1:=by
   rcases List.mem_cons.mp hy1 with rfl|h
   ·decide
   ·rw [List.mem_singleton.mp h]
    decide
  have ex4:=s4 _ _ ex3
  refine⟨_,rfl,lx,_,_,_,rfl,rfl,SqL.of ex4,aM (j:=1) rfl,_,_,rfl,rfl,(by show (0:Int)<2;decide),r4,_,_,_,rfl,rfl,SqL.of e4,ey1,_,_,rfl,rfl,py1,_,_,rfl,rfl,?_⟩
  refine⟨_,rfl,_,rfl,_,rfl,lx,_,_,_,rfl,rfl,SqL.of ex4,aM (j:=2) rfl,_,_,rfl,rfl,(by show (0:Int)<4;decide),_,_,rfl,rfl,by show 3≤sizeLine;decide,fun bl nbl=>?_⟩
  have hsp:1≤1+x1 / 2 % y1:=by have:=Int.emod_nonneg (x1 / 2) (Int.ne_of_gt py1);omega
  have hle:ev≤ev+x2 % 4:=by have:=Int.emod_nonneg x2 (show (4:Int)≠0 by decide);omega
  show tSeq _ _ _ _ (upd H4 bl (.lst [.int (1+x1 / 2 % y1),.int ev,.int (ev+x2 % 4)]))
  generalize 1+x1 / 2 % y1=sp at hsp nbl ⊢
  generalize ev+x2 % 4=le at hle nbl ⊢
  have s5:aL H4 (upd H4 bl (.lst [.int sp,.int ev,.int le])):=aI nbl
  have e5:(upd H4 bl (.lst [.int sp,.int ev,.int le])) bl=some (.lst [.int sp,.int ev,.int le]):=aB
  generalize upd H4 bl (.lst [.int sp,.int ev,.int le])=H5 at s5 e5 ⊢
  have t5:aL H H5:=s1.trans (s2.trans (s3.trans (s4.trans s5)))
  obtain⟨us,u1,u2,rise⟩:=hw1.same (s2.trans (s3.trans (s4.trans s5)))
  have few:=rise.few
  have wkk:=yP rise
  refine⟨_,rfl,_,rfl,bl,_,_,_,rfl,rfl,SqL.of e5,aM (j:=0) rfl,_,rfl,bl,_,_,_,rfl,rfl,SqL.of e5,aM (j:=1) rfl,_,rfl,bl,_,_,_,rfl,rfl,SqL.of e5,aM (j:=2) rfl,fun b dx nb ndx ne=>?_⟩
  have s6:=lJ (C:=CB) nb ndx
  have e6:(upd (upd H5 dx (.own b)) b (.ins CB dx [])) b=some (.ins CB dx []):=aB
  generalize upd (upd H5 dx (.own b)) b (.ins CB dx [])=H6 at s6 e6 ⊢
  refine⟨b,dx,p,wk,sp,ev,le,rfl,e6,cW.same s6 ⟨us,u1,u2⟩,wkk,by omega,hsp,hev,by omega,hle,fun sh spw sd d ws ps H7 k7 _ _ _ S7 shw memw lws B7=>?_⟩
  refine⟨rfl,?_⟩
  have k57:∀{x:Addr} {o:HO},H5 x=some o→H7 x=some o:=fun {x o} e=>k7 x o (s6 _ _ e) (aG e nb)
  have hT7:∀{T:Addr},H T=some (.tbl #[])→H7 T=some (.tbl #[]):=fun e=>k57 (t5 _ _ e)
  have hw7:cW H7 p wk:=⟨us,k57 u1,bV (fun v q ⟨b,y1,y2⟩=>⟨b,y1,k57 y2⟩) u2⟩
  have hS7:SqL K H7 a (ns.map V.int):=by
   have h5:=t5.seq hS
   rcases h5 with (h|⟨o,h⟩)|h
   ·exact .inl (.inl (k57 h))
   ·exact .inl (.inr ⟨o,k57 h⟩)
   ·exact .inr h
  have u17:=k57 u1
  have u27:Paired (gF H7) us wk:=bV (fun v q ⟨b,y1,y2⟩=>⟨b,y1,k57 y2⟩) u2
  have lu:us.length=wk.length:=u2.length
  refine⟨_,rfl,p,_,rfl,.inr (SqT.of u17),us.length,rfl,by omega,by omega,fun acc hacc=>?_⟩
  refine⟨fun i m ys H'=>m=us.length-i∧i≤us.length∧Paired (iK H') ys (pcs 0 (wk.take i))∧aL H7 H'∧H' acc=some (.lst ys),⟨_,rfl,Nat.zero_le _,.nil,aI hacc,aB⟩,?_⟩
  rintro i m ys H' ⟨rfl,hi,rows,sm,hA⟩
  refine⟨hA,?_⟩
  by_cases hlt:i<us.length
  ·refine .inr ⟨by show i<(us.length:Int).toNat;simpa using hlt,?_⟩
   rintro y H'' ⟨rfl,rfl⟩
   have hj:i<wk.length:=by omega
   obtain⟨b',c1,c2⟩:=lG u27 hj
   have c1':atI us (0+(i:Int))=some (.ref b'):=by rw [Int.zero_add];exact aM c1
   have c2':=sm _ _ c2
   have u1':=sm _ _ u17
   refine dD ⟨rfl,?_⟩
   refine eB ?_
   refine eL ?_
   refine⟨_,rfl,_,rfl,_,rfl,p,us,_,_,rfl,rfl,SqT.of u1',c1',b',_,_,_,rfl,rfl,SqT.of c2',aM (j:=0) rfl,_,rfl,_,rfl,p,us,_,_,rfl,rfl,SqT.of u1',c1',b',_,_,_,rfl,rfl,SqT.of c2',aM (j:=1) rfl,_,rfl,_,rfl,p,us,_,_,rfl,rfl,SqT.of u1',c1',b',_,_,_,rfl,rfl,SqT.of c2',aM (j:=0) rfl,by show 5≤sizeLine;decide,fun t' ht=>?_⟩
   have nt:acc≠t':=aG hA ht
   have ly:ys.length=i:=by
    have:=rows.length
    rw [eR,List.length_take] at this
    omega
   refine⟨by rw [aC nt];exact hA,by omega,_,?_,rfl,hlt,?_,fun b o z=>?_,aB⟩
   ·omega
   ·rw [List.take_add_one,List.getElem?_eq_getElem hj]
    show Paired _ _ (pcs 0 (wk.take i++[wk[i]]))
    rw [iV]
    refine cP (bV (fun v c z=>z.mv fun x zs e=>by rw [aC (aW e hA (by intro z;cases z)),aC (aG e ht)];exact e) rows) ⟨t',.non,rfl,?_,trivial⟩
    ·rw [aC nt.symm,aB,List.length_take,Nat.min_eq_left (by omega)]
     show some (HO.tup [.int (0+(i:Int)),_,_,_,_])=some (.tup [.int ((0+i:Nat):Int),_,_,_,_])
     rw [show ((0+i:Nat):Int)=0+(i:Int) by omega]
   ·rw [aC (aG z hacc),aC (aG (sm _ _ z) ht)]
    exact sm _ _ z
  refine .inl ⟨by show (us.length:Int).toNat≤i;simp;omega,?_⟩
  have ei:wk.take i=wk:=List.take_of_length_le (by omega)
  rw [ei] at rows
  exact hR _ a p bl b sh d acc spw sd sp ev le _ _ ps ns wk ws _ _ _ _ _ _ _ _ H' (sm.seq hS7) (hw7.same sm) wkk few (sm _ _ (k57 e5)) hev (B7.sameT (aL.toT sm)) (S7.same sm) shw memw lws ⟨ys,hA,rows⟩ (yG (sm _ _ (hT7 hTG))) (yG (sm _ _ (hT7 hTP))) nT q
end
end Ls
namespace Ls
open PySem L2 PySem.W
theorem fV {α:Type} {us:List α} (h:us.length=1):∃a,us=[a]:=match us,h with | [a],_=>⟨a,rfl⟩
theorem qT {α:Type} {us:List α} (h:us.length=2):∃a b,us=[a,b]:=match us,h with | [a,b],_=>⟨a,b,rfl⟩
theorem len3 {α:Type} {us:List α} (h:us.length=3):∃a b c,us=[a,b,c]:=match us,h with | [a,b,c],_=>⟨a,b,c,rfl⟩
theorem len4 {α:Type} {us:List α} (h:us.length=4):∃a b c d,us=[a,b,c,d]:=match us,h with | [a,b,c,d],_=>⟨a,b,c,d,rfl⟩
theorem len5 {α:Type} {us:List α} (h:us.length=5):∃a b c d e,us=[a,b,c,d,e]:=match us,h with | [a,b,c,d,e],_=>⟨a,b,c,d,e,rfl⟩
theorem all_mk {l:OpenLaw} {w:World} {K:Frag} {h:Heap} {mg:Str→Option Value} {fa:Addr} {TP:Addr} {TG:Addr} {f1:Addr} {f2:Addr} {f3:Addr} {f4:Addr} {f5:Addr} {f6:Addr} {f7:Addr} {f8:Addr} {f9:Addr} {f10:Addr} {f11:Addr} {f12:Addr} {f13:Addr} {f14:Addr} {f15:Addr} {f16:Addr} {f17:Addr} {f18:Addr} {f19:Addr} {f20:Addr} {f21:Addr} {f22:Addr} {f23:Addr} {f24:Addr} {f25:Addr} {f26:Addr} {f27:Addr} {f28:Addr} {f29:Addr} {f30:Addr} {f31:Addr} {f32:Addr} {f33:Addr} {f34:Addr} {f35:Addr} {f36:Addr} {f37:Addr} {f38:Addr} {f39:Addr} {f40:Addr} {f41:Addr} {f42:Addr} {f43:Addr} {f44:Addr} {f45:Addr} {f46:Addr} {f47:Addr} {f48:Addr} {od1 an1:Option Addr} {sl1:Array (Option Value)} {oc1 kV1 dc1 pm1 ct1:Value} {cd1:Value} {od2 an2:Option Addr} {sl2:Array (Option Value)} {oc2 kV2 dc2 pm2 ct2:Value} {cd2:Value} {od3 an3:Option Addr} {sl3:Array (Option Value)} {oc3 kV3 dc3 pm3 ct3:Value} {cd3:Value} {od4 an4:Option Addr} {sl4:Array (Option Value)} {oc4 kV4 dc4 pm4 ct4:Value} {cd4:Value} {od5 an5:Option Addr} {sl5:Array (Option Value)} {oc5 kV5 dc5 pm5 ct5:Value} {cd5:Value} {od6 an6:Option Addr} {sl6:Array (Option Value)} {oc6 kV6 dc6 pm6 ct6:Value} {cd6:Value} {od7 an7:Option Addr} {sl7:Array (Option Value)} {oc7 kV7 dc7 pm7 ct7:Value} {cd7:Value} {od8 an8:Option Addr} {sl8:Array (Option Value)} {oc8 kV8 dc8 pm8 ct8:Value} {cd8:Value} {od9 an9:Option Addr} {sl9:Array (Option Value)} {oc9 kV9 dc9 pm9 ct9:Value} {cd9:Value} {od10 an10:Option Addr} {sl10:Array (Option Value)} {oc10 kV10 dc10 pm10 ct10:Value} {cd10:Value} {od11 an11:Option Addr} {sl11:Array (Option Value)} {oc11 kV11 dc11 pm11 ct11:Value} {cd11:Value} {od12 an12:Option Addr} {sl12:Array (Option Value)} {oc12 kV12 dc12 pm12 ct12:Value} {cd12:Addr} {od13 an13:Option Addr} {sl13:Array (Option Value)} {oc13 kV13 dc13 pm13 ct13:Value} {cd13:Value} {od14 an14:Option Addr} {sl14:Array (Option Value)} {oc14 kV14 dc14 pm14 ct14:Value} {cd14:Value} {od15 an15:Option Addr} {sl15:Array (Option Value)} {oc15 kV15 dc15 pm15 ct15:Value} {cd15:Value} {od16 an16:Option Addr} {sl16:Array (Option Value)} {oc16 kV16 dc16 pm16 ct16:Value} {cd16:Value} {od17 an17:Option Addr} {sl17:Array (Option Value)} {oc17 kV17 dc17 pm17 ct17:Value} {cd17:Value} {od18 an18:Option Addr} {sl18:Array (Option Value)} {oc18 kV18 dc18 pm18 ct18:Value} {cd18:Value} {od19 an19:Option Addr} {sl19:Array (Option Value)} {oc19 kV19 dc19 pm19 ct19:Value} {cd19:Value} {od20 an20:Option Addr} {sl20:Array (Option Value)} {oc20 kV20 dc20 pm20 ct20:Value} {cd20:Value} {od21 an21:Option Addr} {sl21:Array (Option Value)} {oc21 kV21 dc21 pm21 ct21:Value} {cd21:Value} {od22 an22:Option Addr} {sl22:Array (Option Value)} {oc22 kV22 dc22 pm22 ct22:Value} {cd22:Value} {od23 an23:Option Addr} {sl23:Array (Option Value)} {oc23 kV23 dc23 pm23 ct23:Value} {cd23:Value} {od24 an24:Option Addr} {sl24:Array (Option Value)} {oc24 kV24 dc24 pm24 ct24:Value} {cd24:Value} {od25 an25:Option Addr} {sl25:Array (Option Value)} {oc25 kV25 dc25 pm25 ct25:Value} {cd25:Value} {od26 an26:Option Addr} {sl26:Array (Option Value)} {oc26 kV26 dc26 pm26 ct26:Value} {cd26:Value} {od27 an27:Option Addr} {sl27:Array (Option Value)} {oc27 kV27 dc27 pm27 ct27:Value} {cd27:Value} {od28 an28:Option Addr} {sl28:Array (Option Value)} {oc28 kV28 dc28 pm28 ct28:Value} {cd28:Value} {od29 an29:Option Addr} {sl29:Array (Option Value)} {oc29 kV29 dc29 pm29 ct29:Value} {cd29:Value} {od30 an30:Option Addr} {sl30:Array (Option Value)} {oc30 kV30 dc30 pm30 ct30:Value} {cd30:Value} {od31 an31:Option Addr} {sl31:Array (Option Value)} {oc31 kV31 dc31 pm31 ct31:Value} {cd31:Value} {od32 an32:Option Addr} {sl32:Array (Option Value)} {oc32 kV32 dc32 pm32 ct32:Value} {cd32:Value} {od33 an33:Option Addr} {sl33:Array (Option Value)} {oc33 kV33 dc33 pm33 ct33:Value} {cd33:Value} {od34 an34:Option Addr} {sl34:Array (Option Value)} {oc34 kV34 dc34 pm34 ct34:Value} {cd34:Value} {od35 an35:Option Addr} {sl35:Array (Option Value)} {oc35 kV35 dc35 pm35 ct35:Value} {cd35:Value} {od36 an36:Option Addr} {sl36:Array (Option Value)} {oc36 kV36 dc36 pm36 ct36:Value} {cd36:Value} {od37 an37:Option Addr} {sl37:Array (Option Value)} {oc37 kV37 dc37 pm37 ct37:Value} {cd37:Value} {od38 an38:Option Addr} {sl38:Array (Option Value)} {oc38 kV38 dc38 pm38 ct38:Value} {cd38:Addr} {od39 an39:Option Addr} {sl39:Array (Option Value)} {oc39 kV39 dc39 pm39 ct39:Value} {cd39:Value} {od40 an40:Option Addr} {sl40:Array (Option Value)} {oc40 kV40 dc40 pm40 ct40:Value} {cd40:Value} {od41 an41:Option Addr} {sl41:Array (Option Value)} {oc41 kV41 dc41 pm41 ct41:Value} {cd41:Value} {od42 an42:Option Addr} {sl42:Array (Option Value)} {oc42 kV42 dc42 pm42 ct42:Value} {cd42:Value} {od43 an43:Option Addr} {sl43:Array (Option Value)} {oc43 kV43 dc43 pm43 ct43:Value} {cd43:Value} {od44 an44:Option Addr} {sl44:Array (Option Value)} {oc44 kV44 dc44 pm44 ct44:Value} {cd44:Value} {od45 an45:Option Addr} {sl45:Array (Option Value)} {oc45 kV45 dc45 pm45 ct45:Value} {cd45:Value} {od46 an46:Option Addr} {sl46:Array (Option Value)} {oc46 kV46 dc46 pm46 ct46:Value} {cd46:Value} {od47 an47:Option Addr} {sl47:Array (Option Value)} {oc47 kV47 dc47 pm47 ct47:Value} {cd47:Value} {od48 an48:Option Addr} {sl48:Array (Option Value)} {oc48 kV48 dc48 pm48 ct48:Value} {cd48:Value} {CLentError:Addr} {CBadWork:Addr} {CBadBound:Addr} {CBadMoment:Addr} {CTwice:Addr} {CP:Addr} {CS:Addr} {CB:Addr} (nT:TG≠TP) (X:K.In h) (G:h.Ns mainGlobals mg) (hfa:mg "law"=some (.ref fa))
  (gCP:nsIn K mainGlobals "Piece"=some (some (.ref CP)))
  (gCS:nsIn K mainGlobals "Sheet"=some (some (.ref CS)))
  (gCB:nsIn K mainGlobals "Book"=some (some (.ref CB)))
  (nLentError:nsIn K mainGlobals "LentError"=some (some (.ref CLentError)))
  (nBadWork:nsIn K mainGlobals "BadWork"=some (some (.ref CBadWork)))
  (nBadBound:nsIn K mainGlobals "BadBound"=some (some (.ref CBadBound)))
  (nBadMoment:nsIn K mainGlobals "BadMoment"=some (some (.ref CBadMoment)))
  (nTwice:nsIn K mainGlobals "Twice"=some (some (.ref CTwice)))
  (a1:nsIn K mainGlobals "is_whole"=some (some (.ref f1)))
  (l1:K.lookup f1=some ⟨oc1,od1,.func (fnOf "is_whole" "is_whole" (aQ iT) (aO iT) (aH iT) .none kV1 dc1 pm1 an1 cd1 ct1),sl1⟩)
  (c1:codeIn K cd1 "is_whole"=true)
  (k1:keepIn K (.ref f1)=true)
  (a2:nsIn K mainGlobals "is_stretch"=some (some (.ref f2)))
  (l2:K.lookup f2=some ⟨oc2,od2,.func (fnOf "is_stretch" "is_stretch" (aQ fY) (aO fY) (aH fY) .none kV2 dc2 pm2 an2 cd2 ct2),sl2⟩)
  (c2:codeIn K cd2 "is_stretch"=true)
  (k2:keepIn K (.ref f2)=true)
  (a3:nsIn K mainGlobals "is_work"=some (some (.ref f3)))
  (l3:K.lookup f3=some ⟨oc3,od3,.func (fnOf "is_work" "is_work" (aQ sG) (aO sG) (aH sG) .none kV3 dc3 pm3 an3 cd3 ct3),sl3⟩)
  (c3:codeIn K cd3 "is_work"=true)
  (k3:keepIn K (.ref f3)=true)
  (a4:nsIn K mainGlobals "check_work"=some (some (.ref f4)))
  (l4:K.lookup f4=some ⟨oc4,od4,.func (fnOf "check_work" "check_work" (aQ kH) (aO kH) (aH kH) .none kV4 dc4 pm4 an4 cd4 ct4),sl4⟩)
  (c4:codeIn K cd4 "check_work"=true)
  (k4:keepIn K (.ref f4)=true)
  (a5:nsIn K mainGlobals "merged"=some (some (.ref f5)))
  (l5:K.lookup f5=some ⟨oc5,od5,.func (fnOf "merged" "merged" (aQ jI) (aO jI) (aH jI) .none kV5 dc5 pm5 an5 cd5 ct5),sl5⟩)
  (c5:codeIn K cd5 "merged"=true)
  (k5:keepIn K (.ref f5)=true)
  (a6:nsIn K mainGlobals "short_form"=some (some (.ref f6)))
  (l6:K.lookup f6=some ⟨oc6,od6,.func (fnOf "short_form" "short_form" (aQ lU) (aO lU) (aH lU) .none kV6 dc6 pm6 an6 cd6 ct6),sl6⟩)
  (c6:codeIn K cd6 "short_form"=true)
  (k6:keepIn K (.ref f6)=true)
  (a7:nsIn K mainGlobals "without"=some (some (.ref f7)))
  (l7:K.lookup f7=some ⟨oc7,od7,.func (fnOf "without" "without" (aQ hU) (aO hU) (aH hU) .none kV7 dc7 pm7 an7 cd7 ct7),sl7⟩)
  (c7:codeIn K cd7 "without"=true)
  (k7:keepIn K (.ref f7)=true)
  (a8:nsIn K mainGlobals "is_numbers"=some (some (.ref f8)))
  (l8:K.lookup f8=some ⟨oc8,od8,.func (fnOf "is_numbers" "is_numbers" (aQ hV) (aO hV) (aH hV) .none kV8 dc8 pm8 an8 cd8 ct8),sl8⟩)
  (c8:codeIn K cd8 "is_numbers"=true)
  (k8:keepIn K (.ref f8)=true)
  (a9:nsIn K mainGlobals "check_bounds"=some (some (.ref f9)))
  (l9:K.lookup f9=some ⟨oc9,od9,.func (fnOf "check_bounds" "check_bounds" (aQ iG) (aO iG) (aH iG) .none kV9 dc9 pm9 an9 cd9 ct9),sl9⟩)
  (c9:codeIn K cd9 "check_bounds"=true)
  (k9:keepIn K (.ref f9)=true)
  (a10:nsIn K mainGlobals "is_worker"=some (some (.ref f10)))
  (l10:K.lookup f10=some ⟨oc10,od10,.func (fnOf "is_worker" "is_worker" (aQ jF) (aO jF) (aH jF) .none kV10 dc10 pm10 an10 cd10 ct10),sl10⟩)
  (c10:codeIn K cd10 "is_worker"=true)
  (k10:keepIn K (.ref f10)=true)
  (a11:nsIn K mainGlobals "check_worker"=some (some (.ref f11)))
  (l11:K.lookup f11=some ⟨oc11,od11,.func (fnOf "check_worker" "check_worker" (aQ eC) (aO eC) (aH eC) .none kV11 dc11 pm11 an11 cd11 ct11),sl11⟩)
  (c11:codeIn K cd11 "check_worker"=true)
  (k11:keepIn K (.ref f11)=true)
  (a12:nsIn K mainGlobals "greatest"=some (some (.ref f12)))
  (l12:K.lookup f12=some ⟨oc12,od12,.func (fnOf "greatest" "greatest" (aQ eO) (aO eO) (aH eO) .none kV12 dc12 pm12 an12 (.ref cd12) ct12),sl12⟩)
  (c12:codeIn K (.ref cd12) "greatest"=true)
  (k12:keepIn K (.ref f12)=true)
  (t12:codeHdIn K cd12 TG=true)
  (a13:nsIn K mainGlobals "_law_cell_at"=some (some (.ref f13)))
  (l13:K.lookup f13=some ⟨oc13,od13,.func (fnOf "_law_cell_at" "_law_cell_at" (aQ sO) (aO sO) (aH sO) .none kV13 dc13 pm13 an13 cd13 ct13),sl13⟩)
  (c13:codeIn K cd13 "_law_cell_at"=true)
  (k13:keepIn K (.ref f13)=true)
  (a14:nsIn K mainGlobals "_law_draws"=some (some (.ref f14)))
  (l14:K.lookup f14=some ⟨oc14,od14,.func (fnOf "_law_draws" "_law_draws" (aQ mZ) (aO mZ) (aH mZ) .none kV14 dc14 pm14 an14 cd14 ct14),sl14⟩)
  (c14:codeIn K cd14 "_law_draws"=true)
  (k14:keepIn K (.ref f14)=true)
  (a15:nsIn K mainGlobals "_law_work"=some (some (.ref f15)))
  (l15:K.lookup f15=some ⟨oc15,od15,.func (fnOf "_law_work" "_law_work" (aQ sL) (aO sL) (aH sL) .none kV15 dc15 pm15 an15 cd15 ct15),sl15⟩)
  (c15:codeIn K cd15 "_law_work"=true)
  (k15:keepIn K (.ref f15)=true)
  (a16:nsIn K mainGlobals "_law_refused"=some (some (.ref f16)))
  (l16:K.lookup f16=some ⟨oc16,od16,.func (fnOf "_law_refused" "_law_refused" (aQ fZ) (aO fZ) (aH fZ) .none kV16 dc16 pm16 an16 cd16 ct16),sl16⟩)
  (c16:codeIn K cd16 "_law_refused"=true)
  (k16:keepIn K (.ref f16)=true)
  (a17:nsIn K mainGlobals "_law_bad_bounds"=some (some (.ref f17)))
  (l17:K.lookup f17=some ⟨oc17,od17,.func (fnOf "_law_bad_bounds" "_law_bad_bounds" (aQ eP) (aO eP) (aH eP) .none kV17 dc17 pm17 an17 cd17 ct17),sl17⟩)
  (c17:codeIn K cd17 "_law_bad_bounds"=true)
  (k17:keepIn K (.ref f17)=true)
  (a18:nsIn K mainGlobals "_law_great_books"=some (some (.ref f18)))
  (l18:K.lookup f18=some ⟨oc18,od18,.func (fnOf "_law_great_books" "_law_great_books" (aQ mY) (aO mY) (aH mY) .none kV18 dc18 pm18 an18 cd18 ct18),sl18⟩)
  (c18:codeIn K cd18 "_law_great_books"=true)
  (k18:keepIn K (.ref f18)=true)
  (a19:findIn K (.ref CP) "__init__"=some (some (.ref f19)))
  (i19:isFn K (.ref f19)=true)
  (l19:K.lookup f19=some ⟨oc19,od19,.func (fnOf "__init__" "Piece.__init__" (aQ mE) (aO mE) (aH mE) .none kV19 dc19 pm19 an19 cd19 ct19),sl19⟩)
  (c19:codeIn K cd19 "Piece.__init__"=true)
  (k19:keepIn K (.ref f19)=true)
  (a20:findIn K (.ref CP) "rest"=some (some (.ref f20)))
  (i20:isFn K (.ref f20)=true)
  (l20:K.lookup f20=some ⟨oc20,od20,.func (fnOf "rest" "Piece.rest" (aQ lY) (aO lY) (aH lY) .none kV20 dc20 pm20 an20 cd20 ct20),sl20⟩)
  (c20:codeIn K cd20 "Piece.rest"=true)
  (k20:keepIn K (.ref f20)=true)
  (a21:findIn K (.ref CP) "is_done"=some (some (.ref f21)))
  (i21:isFn K (.ref f21)=true)
  (l21:K.lookup f21=some ⟨oc21,od21,.func (fnOf "is_done" "Piece.is_done" (aQ mJ) (aO mJ) (aH mJ) .none kV21 dc21 pm21 an21 cd21 ct21),sl21⟩)
  (c21:codeIn K cd21 "Piece.is_done"=true)
  (k21:keepIn K (.ref f21)=true)
  (a22:findIn K (.ref CP) "is_lent"=some (some (.ref f22)))
  (i22:isFn K (.ref f22)=true)
  (l22:K.lookup f22=some ⟨oc22,od22,.func (fnOf "is_lent" "Piece.is_lent" (aQ lZ) (aO lZ) (aH lZ) .none kV22 dc22 pm22 an22 cd22 ct22),sl22⟩)
  (c22:codeIn K cd22 "Piece.is_lent"=true)
  (k22:keepIn K (.ref f22)=true)
  (a23:findIn K (.ref CP) "is_free"=some (some (.ref f23)))
  (i23:isFn K (.ref f23)=true)
  (l23:K.lookup f23=some ⟨oc23,od23,.func (fnOf "is_free" "Piece.is_free" (aQ mI) (aO mI) (aH mI) .none kV23 dc23 pm23 an23 cd23 ct23),sl23⟩)
  (c23:codeIn K cd23 "Piece.is_free"=true)
  (k23:keepIn K (.ref f23)=true)
  (a24:findIn K (.ref CP) "has_token"=some (some (.ref f24)))
  (i24:isFn K (.ref f24)=true)
  (l24:K.lookup f24=some ⟨oc24,od24,.func (fnOf "has_token" "Piece.has_token" (aQ sK) (aO sK) (aH sK) .none kV24 dc24 pm24 an24 cd24 ct24),sl24⟩)
  (c24:codeIn K cd24 "Piece.has_token"=true)
  (k24:keepIn K (.ref f24)=true)
  (a25:findIn K (.ref CP) "shown"=some (some (.ref f25)))
  (i25:isFn K (.ref f25)=true)
  (l25:K.lookup f25=some ⟨oc25,od25,.func (fnOf "shown" "Piece.shown" (aQ jH) (aO jH) (aH jH) .none kV25 dc25 pm25 an25 cd25 ct25),sl25⟩)
  (c25:codeIn K cd25 "Piece.shown"=true)
  (k25:keepIn K (.ref f25)=true)
  (a26:findIn K (.ref CS) "__init__"=some (some (.ref f26)))
  (i26:isFn K (.ref f26)=true)
  (l26:K.lookup f26=some ⟨oc26,od26,.func (fnOf "__init__" "Sheet.__init__" (aQ lX) (aO lX) (aH lX) .none kV26 dc26 pm26 an26 cd26 ct26),sl26⟩)
  (c26:codeIn K cd26 "Sheet.__init__"=true)
  (k26:keepIn K (.ref f26)=true)
  (a27:findIn K (.ref CS) "lay"=some (some (.ref f27)))
  (i27:isFn K (.ref f27)=true)
  (l27:K.lookup f27=some ⟨oc27,od27,.func (fnOf "lay" "Sheet.lay" (aQ sI) (aO sI) (aH sI) .none kV27 dc27 pm27 an27 cd27 ct27),sl27⟩)
  (c27:codeIn K cd27 "Sheet.lay"=true)
  (k27:keepIn K (.ref f27)=true)
  (a28:findIn K (.ref CS) "result_at"=some (some (.ref f28)))
  (i28:isFn K (.ref f28)=true)
  (l28:K.lookup f28=some ⟨oc28,od28,.func (fnOf "result_at" "Sheet.result_at" (aQ sH) (aO sH) (aH sH) .none kV28 dc28 pm28 an28 cd28 ct28),sl28⟩)
  (c28:codeIn K cd28 "Sheet.result_at"=true)
  (k28:keepIn K (.ref f28)=true)
  (a29:findIn K (.ref CS) "all_results"=some (some (.ref f29)))
  (i29:isFn K (.ref f29)=true)
  (l29:K.lookup f29=some ⟨oc29,od29,.func (fnOf "all_results" "Sheet.all_results" (aQ sJ) (aO sJ) (aH sJ) .none kV29 dc29 pm29 an29 cd29 ct29),sl29⟩)
  (c29:codeIn K cd29 "Sheet.all_results"=true)
  (k29:keepIn K (.ref f29)=true)
  (a30:findIn K (.ref CS) "left_work"=some (some (.ref f30)))
  (i30:isFn K (.ref f30)=true)
  (l30:K.lookup f30=some ⟨oc30,od30,.func (fnOf "left_work" "Sheet.left_work" (aQ lV) (aO lV) (aH lV) .none kV30 dc30 pm30 an30 cd30 ct30),sl30⟩)
  (c30:codeIn K cd30 "Sheet.left_work"=true)
  (k30:keepIn K (.ref f30)=true)
  (a31:findIn K (.ref CS) "holds_row"=some (some (.ref f31)))
  (i31:isFn K (.ref f31)=true)
  (l31:K.lookup f31=some ⟨oc31,od31,.func (fnOf "holds_row" "Sheet.holds_row" (aQ jG) (aO jG) (aH jG) .none kV31 dc31 pm31 an31 cd31 ct31),sl31⟩)
  (c31:codeIn K cd31 "Sheet.holds_row"=true)
  (k31:keepIn K (.ref f31)=true)
  (a32:findIn K (.ref CS) "laid_work"=some (some (.ref f32)))
  (i32:isFn K (.ref f32)=true)
  (l32:K.lookup f32=some ⟨oc32,od32,.func (fnOf "laid_work" "Sheet.laid_work" (aQ lW) (aO lW) (aH lW) .none kV32 dc32 pm32 an32 cd32 ct32),sl32⟩)
  (c32:codeIn K cd32 "Sheet.laid_work"=true)
  (k32:keepIn K (.ref f32)=true)
  (a33:findIn K (.ref CS) "numbers_between"=some (some (.ref f33)))
  (i33:isFn K (.ref f33)=true)
  (l33:K.lookup f33=some ⟨oc33,od33,.func (fnOf "numbers_between" "Sheet.numbers_between" (aQ fX) (aO fX) (aH fX) .none kV33 dc33 pm33 an33 cd33 ct33),sl33⟩)
  (c33:codeIn K cd33 "Sheet.numbers_between"=true)
  (k33:keepIn K (.ref f33)=true)
  (a34:findIn K (.ref CB) "__init__"=some (some (.ref f34)))
  (i34:isFn K (.ref f34)=true)
  (l34:K.lookup f34=some ⟨oc34,od34,.func (fnOf "__init__" "Book.__init__" (aQ gA) (aO gA) (aH gA) .none kV34 dc34 pm34 an34 cd34 ct34),sl34⟩)
  (c34:codeIn K cd34 "Book.__init__"=true)
  (k34:keepIn K (.ref f34)=true)
  (a35:findIn K (.ref CB) "choice"=some (some (.ref f35)))
  (i35:isFn K (.ref f35)=true)
  (l35:K.lookup f35=some ⟨oc35,od35,.func (fnOf "choice" "Book.choice" (aQ gB) (aO gB) (aH gB) .none kV35 dc35 pm35 an35 cd35 ct35),sl35⟩)
  (c35:codeIn K cd35 "Book.choice"=true)
  (k35:keepIn K (.ref f35)=true)
  (a36:findIn K (.ref CB) "lend"=some (some (.ref f36)))
  (i36:isFn K (.ref f36)=true)
  (l36:K.lookup f36=some ⟨oc36,od36,.func (fnOf "lend" "Book.lend" (aQ mQ) (aO mQ) (aH mQ) .none kV36 dc36 pm36 an36 cd36 ct36),sl36⟩)
  (c36:codeIn K cd36 "Book.lend"=true)
  (k36:keepIn K (.ref f36)=true)
  (a37:findIn K (.ref CB) "tell"=some (some (.ref f37)))
  (i37:isFn K (.ref f37)=true)
  (l37:K.lookup f37=some ⟨oc37,od37,.func (fnOf "tell" "Book.tell" (aQ mO) (aO mO) (aH mO) .none kV37 dc37 pm37 an37 cd37 ct37),sl37⟩)
  (c37:codeIn K cd37 "Book.tell"=true)
  (k37:keepIn K (.ref f37)=true)
  (a38:findIn K (.ref CB) "pieces"=some (some (.ref f38)))
  (i38:isFn K (.ref f38)=true)
  (l38:K.lookup f38=some ⟨oc38,od38,.func (fnOf "pieces" "Book.pieces" (aQ eS) (aO eS) (aH eS) .none kV38 dc38 pm38 an38 (.ref cd38) ct38),sl38⟩)
  (c38:codeIn K (.ref cd38) "Book.pieces"=true)
  (k38:keepIn K (.ref f38)=true)
  (t38:codeHdIn K cd38 TP=true)
  (a39:findIn K (.ref CB) "moment_now"=some (some (.ref f39)))
  (i39:isFn K (.ref f39)=true)
  (l39:K.lookup f39=some ⟨oc39,od39,.func (fnOf "moment_now" "Book.moment_now" (aQ sM) (aO sM) (aH sM) .none kV39 dc39 pm39 an39 cd39 ct39),sl39⟩)
  (c39:codeIn K cd39 "Book.moment_now"=true)
  (k39:keepIn K (.ref f39)=true)
  (a40:findIn K (.ref CB) "bounds"=some (some (.ref f40)))
  (i40:isFn K (.ref f40)=true)
  (l40:K.lookup f40=some ⟨oc40,od40,.func (fnOf "bounds" "Book.bounds" (aQ iB) (aO iB) (aH iB) .none kV40 dc40 pm40 an40 cd40 ct40),sl40⟩)
  (c40:codeIn K cd40 "Book.bounds"=true)
  (k40:keepIn K (.ref f40)=true)
  (a41:findIn K (.ref CB) "all_results"=some (some (.ref f41)))
  (i41:isFn K (.ref f41)=true)
  (l41:K.lookup f41=some ⟨oc41,od41,.func (fnOf "all_results" "Book.all_results" (aQ sN) (aO sN) (aH sN) .none kV41 dc41 pm41 an41 cd41 ct41),sl41⟩)
  (c41:codeIn K cd41 "Book.all_results"=true)
  (k41:keepIn K (.ref f41)=true)
  (a42:findIn K (.ref CB) "left_work"=some (some (.ref f42)))
  (i42:isFn K (.ref f42)=true)
  (l42:K.lookup f42=some ⟨oc42,od42,.func (fnOf "left_work" "Book.left_work" (aQ mU) (aO mU) (aH mU) .none kV42 dc42 pm42 an42 cd42 ct42),sl42⟩)
  (c42:codeIn K cd42 "Book.left_work"=true)
  (k42:keepIn K (.ref f42)=true)
  (a43:findIn K (.ref CB) "check_moment"=some (some (.ref f43)))
  (i43:isFn K (.ref f43)=true)
  (l43:K.lookup f43=some ⟨oc43,od43,.func (fnOf "check_moment" "Book.check_moment" (aQ iA) (aO iA) (aH iA) .none kV43 dc43 pm43 an43 cd43 ct43),sl43⟩)
  (c43:codeIn K cd43 "Book.check_moment"=true)
  (k43:keepIn K (.ref f43)=true)
  (a44:findIn K (.ref CB) "held_piece"=some (some (.ref f44)))
  (i44:isFn K (.ref f44)=true)
  (l44:K.lookup f44=some ⟨oc44,od44,.func (fnOf "held_piece" "Book.held_piece" (aQ mV) (aO mV) (aH mV) .none kV44 dc44 pm44 an44 cd44 ct44),sl44⟩)
  (c44:codeIn K cd44 "Book.held_piece"=true)
  (k44:keepIn K (.ref f44)=true)
  (a45:findIn K (.ref CB) "piece_to_tell"=some (some (.ref f45)))
  (i45:isFn K (.ref f45)=true)
  (l45:K.lookup f45=some ⟨oc45,od45,.func (fnOf "piece_to_tell" "Book.piece_to_tell" (aQ hZ) (aO hZ) (aH hZ) .none kV45 dc45 pm45 an45 cd45 ct45),sl45⟩)
  (c45:codeIn K cd45 "Book.piece_to_tell"=true)
  (k45:keepIn K (.ref f45)=true)
  (a46:findIn K (.ref CB) "piece_with"=some (some (.ref f46)))
  (i46:isFn K (.ref f46)=true)
  (l46:K.lookup f46=some ⟨oc46,od46,.func (fnOf "piece_with" "Book.piece_with" (aQ kF) (aO kF) (aH kF) .none kV46 dc46 pm46 an46 cd46 ct46),sl46⟩)
  (c46:codeIn K cd46 "Book.piece_with"=true)
  (k46:keepIn K (.ref f46)=true)
  (a47:findIn K (.ref CB) "new_piece"=some (some (.ref f47)))
  (i47:isFn K (.ref f47)=true)
  (l47:K.lookup f47=some ⟨oc47,od47,.func (fnOf "new_piece" "Book.new_piece" (aQ qB) (aO qB) (aH qB) .none kV47 dc47 pm47 an47 cd47 ct47),sl47⟩)
  (c47:codeIn K cd47 "Book.new_piece"=true)
  (k47:keepIn K (.ref f47)=true)
  (a48:nsIn K mainGlobals "law"=some (some (.ref f48)))
  (l48:K.lookup f48=some ⟨oc48,od48,.func (fnOf "law" "law" (aQ kE) (aO kE) (aH kE) .none kV48 dc48 pm48 an48 cd48 ct48),sl48⟩)
  (c48:codeIn K cd48 "law"=true)
  (k48:keepIn K (.ref f48)=true)
  (z0:nsIn K mainGlobals "isinstance"=some none)
  (z1:nsIn K mainGlobals "int"=some none)
  (z2:nsIn K mainGlobals "bool"=some none)
  (z3:nsIn K mainGlobals "tuple"=some none)
  (z4:nsIn K mainGlobals "len"=some none)
  (z5:nsIn K mainGlobals "range"=some none)
  (z6:nsIn K mainGlobals "list"=some none)
  (z7:nsIn K mainGlobals "max"=some none)
  (z8:nsIn K mainGlobals "sum"=some none)
  (z9:nsIn K mainGlobals "sorted"=some none)
  (z10:nsIn K mainGlobals "any"=some none)
  (z11:nsIn K mainGlobals "all"=some none)
  (z12:nsIn K mainGlobals "enumerate"=some none)
  (z13:nsIn K mainGlobals "min"=some none)
  (z14:nsIn K mainGlobals "str"=some none)
  (pgCP:plainGet K CP Str.empty=true)
  (hdCP:hasDictIn K CP=true)
  (poCP:plainOver K CP=true)
  (saCP:findIn K (.ref CP) "__setattr__"=some (some (.builtin "object.__setattr__")))
  (mkCP:makesIn K CP=true)
  (kcCP:keepIn K (.ref CP)=true)
  (nCP_number:findIn K (.ref CP) "number"=some none)
  (nCP_low:findIn K (.ref CP) "low"=some none)
  (nCP_high:findIn K (.ref CP) "high"=some none)
  (nCP_mark:findIn K (.ref CP) "mark"=some none)
  (nCP_lending:findIn K (.ref CP) "lending"=some none)
  (pgCS:plainGet K CS Str.empty=true)
  (hdCS:hasDictIn K CS=true)
  (poCS:plainOver K CS=true)
  (saCS:findIn K (.ref CS) "__setattr__"=some (some (.builtin "object.__setattr__")))
  (mkCS:makesIn K CS=true)
  (kcCS:keepIn K (.ref CS)=true)
  (nCS_work:findIn K (.ref CS) "work"=some none)
  (nCS_results:findIn K (.ref CS) "results"=some none)
  (pgCB:plainGet K CB Str.empty=true)
  (hdCB:hasDictIn K CB=true)
  (poCB:plainOver K CB=true)
  (saCB:findIn K (.ref CB) "__setattr__"=some (some (.builtin "object.__setattr__")))
  (mkCB:makesIn K CB=true)
  (kcCB:keepIn K (.ref CB)=true)
  (nCB_work:findIn K (.ref CB) "work"=some none)
  (nCB_span:findIn K (.ref CB) "span"=some none)
  (nCB_every:findIn K (.ref CB) "every"=some none)
  (nCB_least:findIn K (.ref CB) "least"=some none)
  (nCB_sheet:findIn K (.ref CB) "sheet"=some none)
  (nCB_by_number:findIn K (.ref CB) "by_number"=some none)
  (nCB_next_number:findIn K (.ref CB) "next_number"=some none)
  (nCB_next_token:findIn K (.ref CB) "next_token"=some none)
  (nCB_moment:findIn K (.ref CB) "moment"=some none)
  (xBadWork:excIn K CBadWork [.type "ValueError",.type "Exception",.type "BaseException",.type "object"] "ValueError.__new__"=true)
  (clBadWork:(clsIn K CBadWork).isSome=true)
  (gaBadWork:findIn K (.ref CBadWork) "__getattribute__"=some (some (.builtin "BaseException.__getattribute__")))
  (ghBadWork:findIn K (.ref CBadWork) "__getattr__"=some none)
  (caBadWork:findIn K (.ref CBadWork) "__class__"=some (some (.builtin "object.__class__")))
  (moBadWork:mroIn K CBadWork (.type "object")=some true)
  (mbBadWork:mroIn K CBadWork (.type "BaseException")=some true)
  (xBadBound:excIn K CBadBound [.type "ValueError",.type "Exception",.type "BaseException",.type "object"] "ValueError.__new__"=true)
  (clBadBound:(clsIn K CBadBound).isSome=true)
  (gaBadBound:findIn K (.ref CBadBound) "__getattribute__"=some (some (.builtin "BaseException.__getattribute__")))
  (ghBadBound:findIn K (.ref CBadBound) "__getattr__"=some none)
  (caBadBound:findIn K (.ref CBadBound) "__class__"=some (some (.builtin "object.__class__")))
  (moBadBound:mroIn K CBadBound (.type "object")=some true)
  (mbBadBound:mroIn K CBadBound (.type "BaseException")=some true)
  (xTwice:excIn K CTwice [.type "ValueError",.type "Exception",.type "BaseException",.type "object"] "ValueError.__new__"=true)
  (clTwice:(clsIn K CTwice).isSome=true)
  (gaTwice:findIn K (.ref CTwice) "__getattribute__"=some (some (.builtin "BaseException.__getattribute__")))
  (ghTwice:findIn K (.ref CTwice) "__getattr__"=some none)
  (caTwice:findIn K (.ref CTwice) "__class__"=some (some (.builtin "object.__class__")))
  (moTwice:mroIn K CTwice (.type "object")=some true)
  (mbTwice:mroIn K CTwice (.type "BaseException")=some true)
  (hitBadWorkLentError:exmOne K (.ref CBadWork) (.ref CLentError)=some true)
  (hitBadBoundLentError:exmOne K (.ref CBadBound) (.ref CLentError)=some true)
  (noBadWorkBadBound:kitOne K (.ref CBadWork) (.ref CBadBound)=some false)
  (noBadWorkBadMoment:kitOne K (.ref CBadWork) (.ref CBadMoment)=some false)
  (noBadBoundBadWork:kitOne K (.ref CBadBound) (.ref CBadWork)=some false)
  (noBadBoundBadMoment:kitOne K (.ref CBadBound) (.ref CBadMoment)=some false)
  (cg:specialIn K (.builtin "object.__class__") "__get__"=some (some (.builtin "getset_descriptor.__get__")))
  (ct:takesIn K (.builtin "object.__class__")=some true):
  ∃fd:FuncData,(∀(s:Shared) (v:Value),BindsTo s fd ⟨[v],[]⟩ [("_law_script",v)])∧∀base:Heap,K.In base→base.Ns mainGlobals mg→uZ base mg→aK l.prog w K mg base CX0 11 fa fd ["_law_script"] (yJ K TG TP):=by
 have e:=hfa.symm.trans (mg_of X G a48)
 cases e
 have B:Gb mg:=⟨mg_none_of X G z0,mg_none_of X G z1,mg_none_of X G z2,mg_none_of X G z3,mg_none_of X G z4,mg_none_of X G z5,mg_none_of X G z6,mg_none_of X G z7,mg_none_of X G z8,mg_none_of X G z9,mg_none_of X G z10,mg_none_of X G z11,mg_none_of X G z12,mg_none_of X G z13⟩
 have F1:=bY (st:=iT) l1 c1 k1
 have b1:=F1.binds (ps:=["thing"]) fun _ _ _ _ _ _ us hl=>by obtain⟨a0_,rfl⟩:=fV hl;rfl
 have M1:=mg_of X G a1
 have F2:=bY (st:=fY) l2 c2 k2
 have b2:=F2.binds (ps:=["thing"]) fun _ _ _ _ _ _ us hl=>by obtain⟨a0_,rfl⟩:=fV hl;rfl
 have M2:=mg_of X G a2
 have F3:=bY (st:=sG) l3 c3 k3
 have b3:=F3.binds (ps:=["thing"]) fun _ _ _ _ _ _ us hl=>by obtain⟨a0_,rfl⟩:=fV hl;rfl
 have M3:=mg_of X G a3
 have F4:=bY (st:=kH) l4 c4 k4
 have b4:=F4.binds (ps:=["work"]) fun _ _ _ _ _ _ us hl=>by obtain⟨a0_,rfl⟩:=fV hl;rfl
 have M4:=mg_of X G a4
 have F5:=bY (st:=jI) l5 c5 k5
 have b5:=F5.binds (ps:=["stretches"]) fun _ _ _ _ _ _ us hl=>by obtain⟨a0_,rfl⟩:=fV hl;rfl
 have M5:=mg_of X G a5
 have F6:=bY (st:=lU) l6 c6 k6
 have b6:=F6.binds (ps:=["work"]) fun _ _ _ _ _ _ us hl=>by obtain⟨a0_,rfl⟩:=fV hl;rfl
 have M6:=mg_of X G a6
 have F7:=bY (st:=hU) l7 c7 k7
 have b7:=F7.binds (ps:=["one","other"]) fun _ _ _ _ _ _ us hl=>by obtain⟨a0_,a1_,rfl⟩:=qT hl;rfl
 have M7:=mg_of X G a7
 have F8:=bY (st:=hV) l8 c8 k8
 have b8:=F8.binds (ps:=["thing"]) fun _ _ _ _ _ _ us hl=>by obtain⟨a0_,rfl⟩:=fV hl;rfl
 have M8:=mg_of X G a8
 have F9:=bY (st:=iG) l9 c9 k9
 have b9:=F9.binds (ps:=["span","every","least"]) fun _ _ _ _ _ _ us hl=>by obtain⟨a0_,a1_,a2_,rfl⟩:=len3 hl;rfl
 have M9:=mg_of X G a9
 have F10:=bY (st:=jF) l10 c10 k10
 have b10:=F10.binds (ps:=["thing"]) fun _ _ _ _ _ _ us hl=>by obtain⟨a0_,rfl⟩:=fV hl;rfl
 have M10:=mg_of X G a10
 have F11:=bY (st:=eC) l11 c11 k11
 have b11:=F11.binds (ps:=["worker"]) fun _ _ _ _ _ _ us hl=>by obtain⟨a0_,rfl⟩:=fV hl;rfl
 have M11:=mg_of X G a11
 have F12:=zH (st:=eO) l12 c12 k12
 have b12:=F12.toFun.binds (ps:=["pieces"]) fun _ _ _ _ _ _ us hl=>by obtain⟨a0_,rfl⟩:=fV hl;rfl
 have M12:=mg_of X G a12
 have F13:=bY (st:=sO) l13 c13 k13
 have b13:=F13.binds (ps:=["_law_script","_law_k"]) fun _ _ _ _ _ _ us hl=>by obtain⟨a0_,a1_,rfl⟩:=qT hl;rfl
 have M13:=mg_of X G a13
 have F14:=bY (st:=mZ) l14 c14 k14
 have b14:=F14.binds (ps:=["_law_cell","_law_many"]) fun _ _ _ _ _ _ us hl=>by obtain⟨a0_,a1_,rfl⟩:=qT hl;rfl
 have M14:=mg_of X G a14
 have F15:=bY (st:=sL) l15 c15 k15
 have b15:=F15.binds (ps:=["_law_cell"]) fun _ _ _ _ _ _ us hl=>by obtain⟨a0_,rfl⟩:=fV hl;rfl
 have M15:=mg_of X G a15
 have F16:=bY (st:=fZ) l16 c16 k16
 have b16:=F16.binds (ps:=["_law_work_here","_law_bounds"]) fun _ _ _ _ _ _ us hl=>by obtain⟨a0_,a1_,rfl⟩:=qT hl;rfl
 have M16:=mg_of X G a16
 have F17:=bY (st:=eP) l17 c17 k17
 have b17:=F17.binds (ps:=["_law_bounds","_law_xs"]) fun _ _ _ _ _ _ us hl=>by obtain⟨a0_,a1_,rfl⟩:=qT hl;rfl
 have M17:=mg_of X G a17
 have F18:=bY (st:=mY) l18 c18 k18
 have b18:=F18.binds (ps:=[]) fun _ _ _ _ _ _ us hl=>by obtain rfl:=List.eq_nil_of_length_eq_zero hl;rfl
 have M18:=mg_of X G a18
 have F19:=bY (st:=mE) l19 c19 k19
 have b19:=F19.binds (ps:=["self","number","low","high"]) fun _ _ _ _ _ _ us hl=>by obtain⟨a0_,a1_,a2_,a3_,rfl⟩:=len4 hl;rfl
 have M19:cJ K CP "__init__" f19:=⟨a19,i19,k19⟩
 have F20:=bY (st:=lY) l20 c20 k20
 have b20:=F20.binds (ps:=["self"]) fun _ _ _ _ _ _ us hl=>by obtain⟨a0_,rfl⟩:=fV hl;rfl
 have M20:cJ K CP "rest" f20:=⟨a20,i20,k20⟩
 have F21:=bY (st:=mJ) l21 c21 k21
 have b21:=F21.binds (ps:=["self"]) fun _ _ _ _ _ _ us hl=>by obtain⟨a0_,rfl⟩:=fV hl;rfl
 have M21:cJ K CP "is_done" f21:=⟨a21,i21,k21⟩
 have F22:=bY (st:=lZ) l22 c22 k22
 have b22:=F22.binds (ps:=["self"]) fun _ _ _ _ _ _ us hl=>by obtain⟨a0_,rfl⟩:=fV hl;rfl
 have M22:cJ K CP "is_lent" f22:=⟨a22,i22,k22⟩
 have F23:=bY (st:=mI) l23 c23 k23
 have b23:=F23.binds (ps:=["self"]) fun _ _ _ _ _ _ us hl=>by obtain⟨a0_,rfl⟩:=fV hl;rfl
 have M23:cJ K CP "is_free" f23:=⟨a23,i23,k23⟩
 have F24:=bY (st:=sK) l24 c24 k24
 have b24:=F24.binds (ps:=["self","token"]) fun _ _ _ _ _ _ us hl=>by obtain⟨a0_,a1_,rfl⟩:=qT hl;rfl
 have M24:cJ K CP "has_token" f24:=⟨a24,i24,k24⟩
 have F25:=bY (st:=jH) l25 c25 k25
 have b25:=F25.binds (ps:=["self"]) fun _ _ _ _ _ _ us hl=>by obtain⟨a0_,rfl⟩:=fV hl;rfl
 have M25:cJ K CP "shown" f25:=⟨a25,i25,k25⟩
 have F26:=bY (st:=lX) l26 c26 k26
 have b26:=F26.binds (ps:=["self","work"]) fun _ _ _ _ _ _ us hl=>by obtain⟨a0_,a1_,rfl⟩:=qT hl;rfl
 have M26:cJ K CS "__init__" f26:=⟨a26,i26,k26⟩
 have F27:=bY (st:=sI) l27 c27 k27
 have b27:=F27.binds (ps:=["self","place","numbers"]) fun _ _ _ _ _ _ us hl=>by obtain⟨a0_,a1_,a2_,rfl⟩:=len3 hl;rfl
 have M27:cJ K CS "lay" f27:=⟨a27,i27,k27⟩
 have F28:=bY (st:=sH) l28 c28 k28
 have b28:=F28.binds (ps:=["self","place"]) fun _ _ _ _ _ _ us hl=>by obtain⟨a0_,a1_,rfl⟩:=qT hl;rfl
 have M28:cJ K CS "result_at" f28:=⟨a28,i28,k28⟩
 have F29:=bY (st:=sJ) l29 c29 k29
 have b29:=F29.binds (ps:=["self"]) fun _ _ _ _ _ _ us hl=>by obtain⟨a0_,rfl⟩:=fV hl;rfl
 have M29:cJ K CS "all_results" f29:=⟨a29,i29,k29⟩
 have F30:=bY (st:=lV) l30 c30 k30
 have b30:=F30.binds (ps:=["self"]) fun _ _ _ _ _ _ us hl=>by obtain⟨a0_,rfl⟩:=fV hl;rfl
 have M30:cJ K CS "left_work" f30:=⟨a30,i30,k30⟩
 have F31:=bY (st:=jG) l31 c31 k31
 have b31:=F31.binds (ps:=["self","first","behind"]) fun _ _ _ _ _ _ us hl=>by obtain⟨a0_,a1_,a2_,rfl⟩:=len3 hl;rfl
 have M31:cJ K CS "holds_row" f31:=⟨a31,i31,k31⟩
 have F32:=bY (st:=lW) l32 c32 k32
 have b32:=F32.binds (ps:=["self"]) fun _ _ _ _ _ _ us hl=>by obtain⟨a0_,rfl⟩:=fV hl;rfl
 have M32:cJ K CS "laid_work" f32:=⟨a32,i32,k32⟩
 have F33:=bY (st:=fX) l33 c33 k33
 have b33:=F33.binds (ps:=["self","low","high"]) fun _ _ _ _ _ _ us hl=>by obtain⟨a0_,a1_,a2_,rfl⟩:=len3 hl;rfl
 have M33:cJ K CS "numbers_between" f33:=⟨a33,i33,k33⟩
 have F34:=bY (st:=gA) l34 c34 k34
 have b34:=F34.binds (ps:=["self","work","span","every","least"]) fun _ _ _ _ _ _ us hl=>by obtain⟨a0_,a1_,a2_,a3_,a4_,rfl⟩:=len5 hl;rfl
 have M34:cJ K CB "__init__" f34:=⟨a34,i34,k34⟩
 have F35:=bY (st:=gB) l35 c35 k35
 have b35:=F35.binds (ps:=["self","moment"]) fun _ _ _ _ _ _ us hl=>by obtain⟨a0_,a1_,rfl⟩:=qT hl;rfl
 have M35:cJ K CB "choice" f35:=⟨a35,i35,k35⟩
 have F36:=bY (st:=mQ) l36 c36 k36
 have b36:=F36.binds (ps:=["self","worker","moment"]) fun _ _ _ _ _ _ us hl=>by obtain⟨a0_,a1_,a2_,rfl⟩:=len3 hl;rfl
 have M36:cJ K CB "lend" f36:=⟨a36,i36,k36⟩
 have F37:=bY (st:=mO) l37 c37 k37
 have b37:=F37.binds (ps:=["self","token","place","numbers","moment"]) fun _ _ _ _ _ _ us hl=>by obtain⟨a0_,a1_,a2_,a3_,a4_,rfl⟩:=len5 hl;rfl
 have M37:cJ K CB "tell" f37:=⟨a37,i37,k37⟩
 have F38:=zH (st:=eS) l38 c38 k38
 have b38:=F38.toFun.binds (ps:=["self"]) fun _ _ _ _ _ _ us hl=>by obtain⟨a0_,rfl⟩:=fV hl;rfl
 have M38:cJ K CB "pieces" f38:=⟨a38,i38,k38⟩
 have F39:=bY (st:=sM) l39 c39 k39
 have b39:=F39.binds (ps:=["self"]) fun _ _ _ _ _ _ us hl=>by obtain⟨a0_,rfl⟩:=fV hl;rfl
 have M39:cJ K CB "moment_now" f39:=⟨a39,i39,k39⟩
 have F40:=bY (st:=iB) l40 c40 k40
 have b40:=F40.binds (ps:=["self"]) fun _ _ _ _ _ _ us hl=>by obtain⟨a0_,rfl⟩:=fV hl;rfl
 have M40:cJ K CB "bounds" f40:=⟨a40,i40,k40⟩
 have F41:=bY (st:=sN) l41 c41 k41
 have b41:=F41.binds (ps:=["self"]) fun _ _ _ _ _ _ us hl=>by obtain⟨a0_,rfl⟩:=fV hl;rfl
 have M41:cJ K CB "all_results" f41:=⟨a41,i41,k41⟩
 have F42:=bY (st:=mU) l42 c42 k42
 have b42:=F42.binds (ps:=["self"]) fun _ _ _ _ _ _ us hl=>by obtain⟨a0_,rfl⟩:=fV hl;rfl
 have M42:cJ K CB "left_work" f42:=⟨a42,i42,k42⟩
 have F43:=bY (st:=iA) l43 c43 k43
 have b43:=F43.binds (ps:=["self","moment"]) fun _ _ _ _ _ _ us hl=>by obtain⟨a0_,a1_,rfl⟩:=qT hl;rfl
 have M43:cJ K CB "check_moment" f43:=⟨a43,i43,k43⟩
 have F44:=bY (st:=mV) l44 c44 k44
 have b44:=F44.binds (ps:=["self","token","moment"]) fun _ _ _ _ _ _ us hl=>by obtain⟨a0_,a1_,a2_,rfl⟩:=len3 hl;rfl
 have M44:cJ K CB "held_piece" f44:=⟨a44,i44,k44⟩
 have F45:=bY (st:=hZ) l45 c45 k45
 have b45:=F45.binds (ps:=["self","token","place","numbers","moment"]) fun _ _ _ _ _ _ us hl=>by obtain⟨a0_,a1_,a2_,a3_,a4_,rfl⟩:=len5 hl;rfl
 have M45:cJ K CB "piece_to_tell" f45:=⟨a45,i45,k45⟩
 have F46:=bY (st:=kF) l46 c46 k46
 have b46:=F46.binds (ps:=["self","number"]) fun _ _ _ _ _ _ us hl=>by obtain⟨a0_,a1_,rfl⟩:=qT hl;rfl
 have M46:cJ K CB "piece_with" f46:=⟨a46,i46,k46⟩
 have F47:=bY (st:=qB) l47 c47 k47
 have b47:=F47.binds (ps:=["self","low","high"]) fun _ _ _ _ _ _ us hl=>by obtain⟨a0_,a1_,a2_,rfl⟩:=len3 hl;rfl
 have M47:cJ K CB "new_piece" f47:=⟨a47,i47,k47⟩
 have F48:=bY (st:=kE) l48 c48 k48
 refine⟨fnOf "law" "law" (aQ kE) (aO kE) (aH kE) .none kV48 dc48 pm48 an48 cd48 ct48,fun s v=>.of_eq rfl,fun base _ _ hB=>?_⟩
 have TPc:Pl K mg CP:=⟨⟨pgCP,hdCP,poCP,saCP⟩,nCP_number,nCP_low,nCP_high,nCP_mark,nCP_lending,mg_of X G gCP⟩
 have TS:Cl K mg CS:=⟨⟨pgCS,hdCS,poCS,saCS⟩,nCS_work,nCS_results,mg_of X G gCS⟩
 have TB:Bl K mg CB:=⟨⟨pgCB,hdCB,poCB,saCB⟩,nCB_work,nCB_span,nCB_every,nCB_least,nCB_sheet,nCB_by_number,nCB_next_number,nCB_next_token,nCB_moment,mg_of X G gCB⟩
 have TW:Tw K mg CTwice:=⟨mg_of X G nTwice,xTwice⟩
 have WB:Bw K mg CBadWork:=⟨mg_of X G nBadWork,xBadWork⟩
 have XB:Bb K mg CBadBound:=⟨mg_of X G nBadBound,xBadBound⟩
 have R:Rf K mg CLentError CBadWork CBadBound CBadMoment:=⟨mg_of X G nLentError,mg_of X G nBadWork,mg_of X G nBadBound,mg_of X G nBadMoment,⟨xBadWork,clBadWork,gaBadWork,ghBadWork,caBadWork,cg,ct,moBadWork,mbBadWork⟩,⟨xBadBound,clBadBound,gaBadBound,ghBadBound,caBadBound,cg,ct,moBadBound,mbBadBound⟩,hitBadWorkLentError,hitBadBoundLentError,noBadWorkBadBound,noBadWorkBadMoment,noBadBoundBadWork,noBadBoundBadMoment⟩
 have G1:aK l.prog w K mg base CX0 1 f1 _ ["thing"] dW:=vT F1 B
 have G3:aK l.prog w K mg base CX0 3 f3 _ ["thing"] tQ:=ok_work F3 B F1 b1 M1 F2 b2 M2
 have G4:aK l.prog w K mg base CX0 4 f4 _ ["work"] kX:=AdK F4 G3 k3 b3 M3
 have G5:aK l.prog w K mg base CX0 1 f5 _ ["stretches"] (pP K):=AaN F5 B
 have G6:aK l.prog w K mg base CX0 5 f6 _ ["work"] oS:=AdA F6 G4 k4 b4 M4 (G5.mono (by decide)) k5 b5 M5
 have G7:aK l.prog w K mg base CX0 6 f7 _ ["one","other"] xB:=diff_of (xL F7 B G6 k6 b6 M6)
 have G8:aK l.prog w K mg base CX0 2 f8 _ ["thing"] tV:=xN F8 B G1 k1 b1 M1
 have G26:aK l.prog w K mg base CX0 6 f26 _ ["self","work"] (wX CS):=ok_init F26 TS (st_of G6) k6 b6 M6
 have G31:aK l.prog w K mg base CX0 1 f31 _ ["self","first","behind"] (tZ CS):=AdG F31 B TS
 have G32:aK l.prog w K mg base CX0 6 f32 _ ["self"] (tY CS):=ok_laid F32 B TS (st_of G6) k6 b6 M6
 have G30:aK l.prog w K mg base CX0 7 f30 _ ["self"] (lS CS):=ok_left F30 TS G7 k7 b7 M7 G32 b32 M32
 have G29:aK l.prog w K mg base CX0 7 f29 _ ["self"] (sE (fun _=>0) CS):=ok_all (fun _=>0) F29 B TS G32 b32 M32 (xQ (fun _=>0) F33 B TS) b33 M33
 have G27:aK l.prog w K mg base (CXE l.prog w) 3 f27 _ ["self","place","numbers"] (spLay CS CTwice):=ok_lay F27 B TS TW G1 k1 b1 M1 G8 k8 b8 M8 G31 b31 M31
 have G28:aK l.prog w K mg base CX0 2 f28 _ ["self","place"] (spRes CS):=ok_res F28 TS G1 k1 b1 M1
 have G19:aK l.prog w K mg base CX0 1 f19 _ ["self","number","low","high"] (tU CP):=AdB F19 TPc
 have G20:aK l.prog w K mg base CX0 1 f20 _ ["self"] (tT CP):=ok_rest F20 TPc
 have G21:aK l.prog w K mg base CX0 1 f21 _ ["self"] (uB CP):=ok_done F21 TPc
 have G22:aK l.prog w K mg base CX0 1 f22 _ ["self"] (tW CP):=ok_lent F22 TPc
 have G23:aK l.prog w K mg base CX0 2 f23 _ ["self"] (xA CP):=ok_free F23 TPc G22 b22 M22 G21 b21 M21
 have G24:aK l.prog w K mg base CX0 2 f24 _ ["self","token"] (wZ CP):=ok_hasT F24 TPc G22 b22 M22
 have G25:aK l.prog w K mg base CX0 1 f25 _ ["self"] (tS CP):=AcZ F25 TPc
 have G12:aK l.prog w K mg base CX0 4 f12 _ ["pieces"] (uA CP TG):=vV F12 t12 hB (mg_none_of X G z13) TPc G20 b20 M20
 have G9:aK l.prog w K mg base CX0 2 f9 _ ["span","every","least"] jZ:=vX F9 G1 k1 b1 M1
 have G47:aK l.prog w K mg base CX0 3 f47 _ ["self","low","high"] (spNew CB CP):=ok_new F47 TB TPc G19 b19 ⟨mkCP,a19,i19,kcCP⟩
 have G34:aK l.prog w K mg base CX0 8 f34 _ ["self","work","span","every","least"] (oU CB CS CP):=AdF F34 TB TS G4 k4 b4 M4 G9 k9 b9 M9 G26 b26 ⟨mkCS,a26,i26,kcCS⟩ G47 b47 M47
 have G39:aK l.prog w K mg base CX0 1 f39 _ ["self"] (yI CB):=ok_now F39 TB
 have G40:aK l.prog w K mg base CX0 1 f40 _ ["self"] (uC CB):=ok_bnds F40 TB
 have G41:aK l.prog w K mg base CX0 8 f41 _ ["self"] (oA CB CS fun vs H Q _=>sE (fun _=>0) CS vs H Q E0):=ok_kall (sp':=sE (fun _=>0) CS) F41 TB TS G29 b29 M29
 have G42:aK l.prog w K mg base CX0 8 f42 _ ["self"] (oA CB CS fun vs H Q _=>lS CS vs H Q E0):=AdE (sp':=lS CS) F42 TB TS G30 b30 M30
 have G43:aK l.prog w K mg base CX0 2 f43 _ ["self","moment"] (oT CB):=AdC F43 TB G1 k1 b1 M1
 have G35:aK l.prog w K mg base CX0 5 f35 _ ["self","moment"] (jE CB CP TG):=xO F35 TB TPc G43 b43 M43 G23 b23 M23 G12 k12 b12 M12
 have G10:aK l.prog w K mg base CX0 1 f10 _ ["thing"] jX:=vS F10 B (mg_none_of X G z14)
 have G11:aK l.prog w K mg base CX0 2 f11 _ ["worker"] jY:=vW F11 G10 k10 b10 M10
 have G46:aK l.prog w K mg base CX0 2 f46 _ ["self","number"] (wU CB CP):=ok_with F46 TB G1 k1 b1 M1
 have G36:aK l.prog w K mg base CX0 6 f36 _ ["self","worker","moment"] (tX CB CP TG):=AdD F36 TB TPc (G11.mono (by decide)) k11 b11 M11 G35 b35 M35 (G46.mono (by decide)) b46 M46
 have G44:aK l.prog w K mg base CX0 3 f44 _ ["self","token","moment"] (wY CB CP):=ok_held F44 TB TPc G43 b43 M43 (G1.mono (by decide)) k1 b1 M1 G24 b24 M24
 have G45:aK l.prog w K mg base CX0 4 f45 _ ["self","token","place","numbers","moment"] (pM CB CS CP):=AaL F45 B TB TS TPc G44 b44 M44 (G1.mono (by decide)) k1 b1 M1 (G8.mono (by decide)) k8 b8 M8 (G28.mono (by decide)) b28 M28
 have G37:aK l.prog w K mg base CX0 5 f37 _ ["self","token","place","numbers","moment"] (wV CB CS CP):=ok_tell F37 B TB TS TPc G45 b45 M45 (G27.mono (by decide)) b27 M27 (G21.mono (by decide)) b21 M21
 have G38:aK l.prog w K mg base CX0 4 f38 _ ["self"] (gY CB CP TP):=AaM F38 t38 hB (mg_none_of X G z9) TB TPc G25 b25 M25
 have N9:aK l.prog w K mg base (CXE l.prog w) 2 f9 _ ["span","every","least"] (lT CBadBound):=xP F9 XB G1 k1 b1 M1
 have N4:aK l.prog w K mg base (CXE l.prog w) 4 f4 _ ["work"] (spRef CBadWork):=AaQ F4 WB G3 k3 b3 M3
 have N34:aK l.prog w K mg base (CXE l.prog w) 5 f34 _ ["self","work","span","every","least"] (pQ CBadWork):=AaO F34 N4 k4 b4 M4
 have Q34:aK l.prog w K mg base (CXE l.prog w) 5 f34 _ ["self","work","span","every","least"] (pT CBadBound):=AaP F34 G4 k4 b4 M4 (N9.mono (by decide)) k9 b9 M9
 have N16:aK l.prog w K mg base CX0 8 f16 _ ["_law_work_here","_law_bounds"] pN:=ok_refW F16 B TB R ⟨mkCB,a34,i34,kcCB⟩ (N34.mono (by decide)) b34
 have G16:aK l.prog w K mg base CX0 8 f16 _ ["_law_work_here","_law_bounds"] pO:=ok_refB F16 B TB R ⟨mkCB,a34,i34,kcCB⟩ (Q34.mono (by decide)) b34
 have G13:aK l.prog w K mg base CX0 1 f13 _ ["_law_script","_law_k"] (xC K):=ok_cell F13 B
 have G14:aK l.prog w K mg base CX0 1 f14 _ ["_law_cell","_law_many"] jD:=AdI F14 B
 have G15:aK l.prog w K mg base CX0 2 f15 _ ["_law_cell"] wW:=ok_make F15 B G14 k14 b14 M14
 have G17:aK l.prog w K mg base CX0 1 f17 _ ["_law_bounds","_law_xs"] pU:=ok_badB F17 B
 have G18:aK l.prog w K mg base CX0 10 f18 _ [] (iR TG TP):=AdH F18 B TB G34 b34 ⟨mkCB,a34,i34,kcCB⟩ (G35.mono (by decide)) b35 M35 (G38.mono (by decide)) b38 M38 (G36.mono (by decide)) b36 M36 (G37.mono (by decide)) b37 M37
 exact ok_law F48 B TB nT (G13.mono (by decide)) k13 b13 M13 (G15.mono (by decide)) k15 b15 M15 (G34.mono (by decide)) b34 ⟨mkCB,a34,i34,kcCB⟩ (G14.mono (by decide)) k14 b14 M14 (G17.mono (by decide)) k17 b17 M17 (G16.mono (by decide)) (N16.mono (by decide)) k16 b16 M16 (G38.mono (by decide)) b38 M38 G18 k18 b18 M18 (G41.mono (by decide)) b41 M41 (G39.mono (by decide)) b39 M39 (G40.mono (by decide)) b40 M40 (G42.mono (by decide)) b42 M42
theorem tabsOk {h:Heap} {TP cTP:Addr} {TG cTG:Addr} (aTP:h.get? TP=some (tabObj #[])) (bTP:CodeHd h cTP TP) (aTG:h.get? TG=some (tabObj #[])) (bTG:CodeHd h cTG TG):∀p ∈ [TP,TG],h.get? p=some (tabObj #[])∧isCodeTable h p:=aN ⟨aTP,(bTP.tab aTP).isCodeTable⟩ (aN ⟨aTG,(bTG.tab aTG).isCodeTable⟩ cO)
theorem walk {l:OpenLaw} {q:Program} {loose:List Str} {XP:(Str→Option Value)→Heap→Prop} {YP:World→Heap→Prop} {d:DefRec} {K:Params→Frag} {TP:Addr} {TG:Addr} (hn:l.most=some 63) (hdf:d.params.defaults=[])
  (hY:∀(w:World) (h:Heap),YP w h→(K w.params).In h∧noTabs (K w.params)=true∧∀p ∈ [TP,TG],h.get? p=some (tabObj #[])∧isCodeTable h p)
  (F:∀(w:World) (mg:Str→Option Value) (fa:Addr) (h:Heap),(K w.params).In h→h.Ns mainGlobals mg→mg d.name=some (.ref fa) →
   ∃fd:FuncData,(∀(s:Shared) (u:Value),BindsTo s fd ⟨[u],[]⟩ [("_law_script",u)])∧∀base:Heap,(K w.params).In base→base.Ns mainGlobals mg→uZ base mg→aK l.prog w (K w.params) mg base CX0 11 fa fd ["_law_script"] (yJ (K w.params) TG TP)):
  WalkO q loose XP YP l.row.toRowW d [] (fun f vs=>PySem.call f vs):=
 L2.walk_ofT (ts:=[TP,TG]) (n:=63) (k:=11) (x:="_law_script") (CX:=fun _=>CX0) (sp:=fun w=>yJ (K w.params) TG TP) hn (by decide) hdf ⟨rfl,by decide,by decide⟩ hY F (fun _ _ a ns hl _ hT hS=>⟨a,ns,rfl,hS,hl,hT _ (by simp),hT _ (by simp),fun _=>rfl⟩) fun _ _ _ _ _ z=>z
end Ls
namespace PySem.W.Fast
theorem tw14291238353634287991:True:=⟨⟩
theorem tw17154737221384889419:True:=⟨⟩
theorem tw15995418310115325108:True:=⟨⟩
theorem tw8267806946094391996:True:=⟨⟩
theorem tw14833059362975189216:True:=⟨⟩
theorem tw13711281421202735535:True:=⟨⟩
theorem tw522726439539361564:True:=⟨⟩
theorem tw11866641972110747723:True:=⟨⟩
theorem tw3806079317785295489:True:=⟨⟩
theorem tw10037847669857005876:True:=⟨⟩
theorem tw2763060470013366321:True:=⟨⟩
theorem tw17917967563565378548:True:=⟨⟩
theorem tw12752719496909937006:True:=⟨⟩
theorem tw435367437600862127:True:=⟨⟩
theorem tw12033108130512185389:True:=⟨⟩
theorem tw4558526959314886066:True:=⟨⟩
theorem tw14774454934660835650:True:=⟨⟩
theorem tw5296911359944486104:True:=⟨⟩
theorem tw16894233086332213089:True:=⟨⟩
theorem tw5062477645202056751:True:=⟨⟩
theorem tw10343053828528401530:True:=⟨⟩
theorem tw4362427891561433903:True:=⟨⟩
theorem tw1831738819104449608:True:=⟨⟩
theorem tw7857039471442391469:True:=⟨⟩
theorem tw13509053102187003036:True:=⟨⟩
theorem tw17223006617675149637:True:=⟨⟩
theorem tw5444810877233425391:True:=⟨⟩
theorem tw8501585265880115336:True:=⟨⟩
theorem tw9193698889931364394:True:=⟨⟩
theorem tw6279012633713573745:True:=⟨⟩
theorem tw4759531185187693167:True:=⟨⟩
theorem tw5942767298243634205:True:=⟨⟩
theorem tw5650205845850530084:True:=⟨⟩
theorem tw2881921109298483861:True:=⟨⟩
theorem tw7671855762692278326:True:=⟨⟩
theorem tw110038848475348719:True:=⟨⟩
theorem tw2332722701377243960:True:=⟨⟩
theorem tw15789514413401228395:True:=⟨⟩
theorem tw7956110544303565848:True:=⟨⟩
theorem tw1355713900091539562:True:=⟨⟩
theorem tw2862833644057756944:True:=⟨⟩
theorem tw263551253560447716:True:=⟨⟩
theorem tw13398195765924804433:True:=⟨⟩
theorem tw13483933327249042760:True:=⟨⟩
theorem tw11984930654023438561:True:=⟨⟩
theorem tw3736146634591234369:True:=⟨⟩
theorem tw1717340209258889356:True:=⟨⟩
theorem tw17105143735096031535:True:=⟨⟩
theorem tw2605251049644922826:True:=⟨⟩
theorem tw268746378766837225:True:=⟨⟩
theorem tw11598431244030735217:True:=⟨⟩
theorem tw717273398854831716:True:=⟨⟩
theorem tw8947273987265582666:True:=⟨⟩
theorem tw11578501877734083238:True:=⟨⟩
theorem tw16209578268286538897:True:=⟨⟩
theorem tw6503611493810210755:True:=⟨⟩
theorem tw9886082250673765259:True:=⟨⟩
theorem tw17587443169848328932:True:=⟨⟩
theorem tw2465222949130911212:True:=⟨⟩
theorem tw11676524900946660969:True:=⟨⟩
theorem tw10093973644746012652:True:=⟨⟩
theorem tw14232961225145224262:True:=⟨⟩
theorem tw12376412759344869898:True:=⟨⟩
theorem tw10779417972039428001:True:=⟨⟩
theorem tw6060718193454813409:True:=⟨⟩
theorem tw1538381772322499644:True:=⟨⟩
theorem tw3917639723008971997:True:=⟨⟩
theorem tw7938928460259589774:True:=⟨⟩
theorem tw15127040329990155143:True:=⟨⟩
theorem tw17327602270457914603:True:=⟨⟩
theorem tw8629956298741087030:True:=⟨⟩
theorem tw10736161183912200863:True:=⟨⟩
theorem tw9591260225619835395:True:=⟨⟩
theorem tw10769744522078864143:True:=⟨⟩
theorem tw4406205257601791061:True:=⟨⟩
theorem tw8538679781704407926:True:=⟨⟩
theorem tw8720695827001852054:True:=⟨⟩
theorem tw4590003686643951989:True:=⟨⟩
theorem tw7333433324801420728:True:=⟨⟩
theorem tw8618480652891839262:True:=⟨⟩
theorem tw8044419411166111743:True:=⟨⟩
theorem tw5792901512489940851:True:=⟨⟩
theorem tw13335873361586774804:True:=⟨⟩
theorem tw17213175165173993635:True:=⟨⟩
theorem tw4236515772310291244:True:=⟨⟩
theorem tw4301336089577750140:True:=⟨⟩
theorem tw17462826253001846933:True:=⟨⟩
theorem tw18426909286801079873:True:=⟨⟩
theorem tw7762688387386786843:True:=⟨⟩
theorem tw4666628840186848938:True:=⟨⟩
theorem tw15826878045394415920:True:=⟨⟩
theorem tw13581181486702820625:True:=⟨⟩
theorem tw8801873083535973741:True:=⟨⟩
theorem tw6877350963802856255:True:=⟨⟩
theorem tw18042836050413143126:True:=⟨⟩
theorem tw3532930437825083422:True:=⟨⟩
theorem tw4969252813753434527:True:=⟨⟩
theorem tw3979811280920095019:True:=⟨⟩
theorem tw1246517741124282368:True:=⟨⟩
theorem tw8371781978818204862:True:=⟨⟩
theorem tw6898561450346892291:True:=⟨⟩
theorem tw6469678213891320004:True:=⟨⟩
theorem tw6112288568455124708:True:=⟨⟩
theorem tw6101935380698483882:True:=⟨⟩
theorem tw16160025825639809874:True:=⟨⟩
theorem tw691781532695871843:True:=⟨⟩
theorem tw15462477689859968105:True:=⟨⟩
theorem tw1946647982540224054:True:=⟨⟩
theorem tw1827534373115591083:True:=⟨⟩
theorem tw18380237488995739456:True:=⟨⟩
theorem tw7252728550031810584:True:=⟨⟩
theorem tw15639297831846479784:True:=⟨⟩
theorem tw2983418376597077198:True:=⟨⟩
theorem tw15868716255954059234:True:=⟨⟩
theorem tw6999184229525010890:True:=⟨⟩
theorem tw4290154745110364860:True:=⟨⟩
theorem tw17175593972095328783:True:=⟨⟩
theorem tw17357463049918622281:True:=⟨⟩
theorem tw2696305661328423206:True:=⟨⟩
theorem tw3478455475907489866:True:=⟨⟩
theorem tw17663135958365623458:True:=⟨⟩
theorem tw13685901278780331454:True:=⟨⟩
theorem tw18345447652958819310:True:=⟨⟩
theorem tw6064905390346885577:True:=⟨⟩
theorem tw15832579500139533298:True:=⟨⟩
theorem tw6456430709169253771:True:=⟨⟩
theorem tw12370990427829708696:True:=⟨⟩
theorem tw14411718742762683712:True:=⟨⟩
theorem tw12784025634829389204:True:=⟨⟩
theorem tw8406359541438217630:True:=⟨⟩
theorem tw9246167062800574120:True:=⟨⟩
theorem tw2179739150640770219:True:=⟨⟩
theorem tw5885706594947407163:True:=⟨⟩
theorem tw8690522432275500201:True:=⟨⟩
theorem tw14604485480990071955:True:=⟨⟩
theorem tw3310499610382926223:True:=⟨⟩
theorem tw12982682938825973128:True:=⟨⟩
theorem tw9701854963560760708:True:=⟨⟩
theorem tw7945003830414290287:True:=⟨⟩
theorem tw7581539711145873776:True:=⟨⟩
theorem tw8636612723996237967:True:=⟨⟩
theorem tw85907997529599259:True:=⟨⟩
theorem tw15096490113984106229:True:=⟨⟩
theorem tw13321404687240306784:True:=⟨⟩
theorem tw18217315165183414970:True:=⟨⟩
theorem tw8679398119452049453:True:=⟨⟩
theorem tw3687513448570389655:True:=⟨⟩
theorem tw16083303055922928392:True:=⟨⟩
theorem tw1922128530277623401:True:=⟨⟩
theorem tw764633165949780467:True:=⟨⟩
theorem tw5457336442453210998:True:=⟨⟩
theorem tw18198318274561594014:True:=⟨⟩
theorem tw12418157638979104400:True:=⟨⟩
theorem tw4037649406087263694:True:=⟨⟩
theorem tw11837194002149907683:True:=⟨⟩
theorem tw16712003073593381540:True:=⟨⟩
theorem tw13808772346871372562:True:=⟨⟩
theorem tw8523278107413288474:True:=⟨⟩
theorem tw2621838110668762668:True:=⟨⟩
theorem tw14454492393623130936:True:=⟨⟩
theorem tw5792922965860644529:True:=⟨⟩
theorem tw12374792297454660425:True:=⟨⟩
theorem tw11014317317783161475:True:=⟨⟩
theorem tw1393216670129954775:True:=⟨⟩
theorem tw14835889685150569111:True:=⟨⟩
theorem tw5697187782451647081:True:=⟨⟩
theorem tw14150639316782647277:True:=⟨⟩
theorem tw9746695223188324071:True:=⟨⟩
theorem tw2069076634560509930:True:=⟨⟩
theorem tw11095207710801793208:True:=⟨⟩
theorem tw17337706266305379904:True:=⟨⟩
theorem tw2936881315734006240:True:=⟨⟩
theorem tw1714122979585596207:True:=⟨⟩
theorem tw6002699058228070544:True:=⟨⟩
theorem tw16905935130995406032:True:=⟨⟩
theorem tw2500684077417532470:True:=⟨⟩
theorem tw17951199779874945441:True:=⟨⟩
theorem tw405639756408301570:True:=⟨⟩
theorem tw16521500800025364763:True:=⟨⟩
theorem tw17913947073981498250:True:=⟨⟩
theorem tw11602066471167886773:True:=⟨⟩
theorem tw12252880322598664123:True:=⟨⟩
theorem tw3337445710852243021:True:=⟨⟩
theorem tw10950705754392162420:True:=⟨⟩
theorem tw10668763365336828980:True:=⟨⟩
theorem tw5201247556311781048:True:=⟨⟩
theorem tw6334270317482732555:True:=⟨⟩
theorem tw14095002846981519002:True:=⟨⟩
theorem tw5819085051821862767:True:=⟨⟩
theorem tw9761709802787140616:True:=⟨⟩
theorem tw2997919077763476592:True:=⟨⟩
theorem tw3502065472853941803:True:=⟨⟩
theorem tw7700967137959329264:True:=⟨⟩
theorem tw11455316276523410736:True:=⟨⟩
theorem tw14202606833813949615:True:=⟨⟩
theorem tw5556534965515857682:True:=⟨⟩
theorem tw16820887397554283427:True:=⟨⟩
theorem tw14767846767908050417:True:=⟨⟩
theorem tw8019370553346872313:True:=⟨⟩
theorem tw10023153357742056648:True:=⟨⟩
theorem tw17023627413555015977:True:=⟨⟩
theorem tw2127374770777262914:True:=⟨⟩
theorem tw15971466025760367792:True:=⟨⟩
theorem tw13029948057807081943:True:=⟨⟩
theorem tw662795684614672128:True:=⟨⟩
theorem tw6489789002868779516:True:=⟨⟩
theorem tw1537458254542008866:True:=⟨⟩
theorem tw12239813231619153183:True:=⟨⟩
theorem tw11756850382201478105:True:=⟨⟩
theorem tw8809553602788427489:True:=⟨⟩
theorem tw12513795256506635767:True:=⟨⟩
theorem tw17095696134495306488:True:=⟨⟩
theorem tw304305070155635768:True:=⟨⟩
theorem tw5267840345071759889:True:=⟨⟩
theorem tw13781544192943945184:True:=⟨⟩
theorem tw14369262953928469077:True:=⟨⟩
theorem tw2044260834727014411:True:=⟨⟩
theorem tw10601704684630655246:True:=⟨⟩
theorem tw1355792607378596312:True:=⟨⟩
theorem tw417396581215110093:True:=⟨⟩
theorem tw13807281568289035827:True:=⟨⟩
theorem tw17987355932937087132:True:=⟨⟩
theorem tw3258207375989218508:True:=⟨⟩
theorem tw10314277640032220409:True:=⟨⟩
theorem tw1001708970954688031:True:=⟨⟩
theorem tw433044490301462026:True:=⟨⟩
theorem tw8666578134029256844:True:=⟨⟩
theorem tw1224450086544581838:True:=⟨⟩
theorem tw1508348111871162880:True:=⟨⟩
theorem tw10537424753667064117:True:=⟨⟩
theorem tw14018206670209508207:True:=⟨⟩
theorem tw2207576390664222109:True:=⟨⟩
theorem tw4823861246543237456:True:=⟨⟩
theorem tw5932412563801154420:True:=⟨⟩
theorem tw7296618493990895894:True:=⟨⟩
theorem tw16619461756079415142:True:=⟨⟩
theorem tw9234418023319754689:True:=⟨⟩
theorem tw2890765670191781087:True:=⟨⟩
theorem tw14157185641487323669:True:=⟨⟩
theorem tw2697481395105476308:True:=⟨⟩
theorem tw16149428532089256705:True:=⟨⟩
theorem tw12434250385929680265:True:=⟨⟩
theorem tw14322536440739496202:True:=⟨⟩
theorem tw6868098207782335523:True:=⟨⟩
theorem tw2909206684894577830:True:=⟨⟩
theorem tw8666221229931979073:True:=⟨⟩
theorem tw12302522001254541623:True:=⟨⟩
theorem tw6895887330985607561:True:=⟨⟩
theorem tw13676959794371924692:True:=⟨⟩
theorem tw1367444000702394088:True:=⟨⟩
theorem tw11727414916259763612:True:=⟨⟩
theorem tw73891792224210889:True:=⟨⟩
theorem tw2389533624391873105:True:=⟨⟩
theorem tw3609887225401833945:True:=⟨⟩
theorem tw9563108804436201398:True:=⟨⟩
theorem tw4801072720309219618:True:=⟨⟩
theorem tw16406884084888084873:True:=⟨⟩
theorem tw7502507382519175484:True:=⟨⟩
theorem tw12834028687660905268:True:=⟨⟩
theorem tw11359369924777889004:True:=⟨⟩
theorem tw9601486084183835942:True:=⟨⟩
theorem tw3328327233412634182:True:=⟨⟩
theorem tw18218698913002497647:True:=⟨⟩
theorem tw17042606211203913289:True:=⟨⟩
theorem tw4166010003708940101:True:=⟨⟩
theorem tw17702956234484160605:True:=⟨⟩
theorem tw8530810221531498941:True:=⟨⟩
theorem tw10941993080828203467:True:=⟨⟩
theorem tw14491296762841022292:True:=⟨⟩
theorem tw14760150098337420514:True:=⟨⟩
theorem tw16165349393414719824:True:=⟨⟩
theorem tw15086735805317215152:True:=⟨⟩
theorem tw5203171726630137766:True:=⟨⟩
theorem tw7050025191458327391:True:=⟨⟩
theorem tw13629774844169244026:True:=⟨⟩
theorem tw4218114201348071722:True:=⟨⟩
theorem tw1178415470057219509:True:=⟨⟩
theorem tw3289795610154692116:True:=⟨⟩
theorem tw2529120505052963622:True:=⟨⟩
theorem tw4427814506132181721:True:=⟨⟩
theorem tw1586075638248389992:True:=⟨⟩
theorem tw13165510782761636439:True:=⟨⟩
theorem tw11415925053810153516:True:=⟨⟩
theorem tw8975165598782712281:True:=⟨⟩
theorem tw11329005468909234474:True:=⟨⟩
theorem tw10474397314957910162:True:=⟨⟩
theorem tw5944234018230388391:True:=⟨⟩
theorem tw9149022381644651955:True:=⟨⟩
theorem tw13660531148123215492:True:=⟨⟩
theorem tw14898513982530129412:True:=⟨⟩
theorem tw5398839007231900644:True:=⟨⟩
theorem tw17407378083385602508:True:=⟨⟩
theorem tw13573908753174996217:True:=⟨⟩
theorem tw17614702092369172152:True:=⟨⟩
theorem tw5006003806627680371:True:=⟨⟩
theorem tw5023483098372363465:True:=⟨⟩
theorem tw10755113602599174973:True:=⟨⟩
theorem tw3516683375547567527:True:=⟨⟩
theorem tw12868318729508722532:True:=⟨⟩
theorem tw3657387548011672745:True:=⟨⟩
theorem tw16371811675844861287:True:=⟨⟩
theorem tw18250989898085426586:True:=⟨⟩
theorem tw15033474283844183665:True:=⟨⟩
theorem tw3823323722001623451:True:=⟨⟩
theorem tw8188571908440254804:True:=⟨⟩
theorem tw2450065677028952912:True:=⟨⟩
theorem tw13120640606583166164:True:=⟨⟩
theorem tw15236323550267181700:True:=⟨⟩
theorem tw16718995453039868130:True:=⟨⟩
theorem tw3252704032881114056:True:=⟨⟩
theorem tw10771045735806946102:True:=⟨⟩
theorem tw4387993565379896516:True:=⟨⟩
theorem tw10999525255972603092:True:=⟨⟩
theorem tw3899072005398647336:True:=⟨⟩
theorem tw14714304884092024723:True:=⟨⟩
theorem tw17458649121321226938:True:=⟨⟩
theorem tw917972437225573881:True:=⟨⟩
theorem tw11648576271022809268:True:=⟨⟩
theorem tw2233085450576156112:True:=⟨⟩
theorem tw3071784291968358912:True:=⟨⟩
theorem tw4062677486250230082:True:=⟨⟩
theorem tw13458733747883450522:True:=⟨⟩
theorem tw1831220334631681389:True:=⟨⟩
theorem tw14656948565213122612:True:=⟨⟩
theorem tw4667042069033531015:True:=⟨⟩
theorem tw12407436032021054879:True:=⟨⟩
theorem tw74484676771608597:True:=⟨⟩
theorem tw14796769273571958273:True:=⟨⟩
theorem tw2146229296983138492:True:=⟨⟩
theorem tw16641617477294221873:True:=⟨⟩
theorem tw281130363109863102:True:=⟨⟩
theorem tw16284424602014189174:True:=⟨⟩
theorem tw5068525977017183927:True:=⟨⟩
theorem tw14787578474952009200:True:=⟨⟩
theorem tw4249527562292439022:True:=⟨⟩
theorem tw687455411275367437:True:=⟨⟩
theorem tw17777870277082286646:True:=⟨⟩
theorem tw16183237203531878303:True:=⟨⟩
theorem tw9641487583264448669:True:=⟨⟩
theorem tw7173696938134300175:True:=⟨⟩
theorem tw4732496001655899665:True:=⟨⟩
theorem tw16576155299519289100:True:=⟨⟩
theorem tw9517259413986748641:True:=⟨⟩
theorem tw8667781933275162539:True:=⟨⟩
theorem tw11607259704963627744:True:=⟨⟩
theorem tw794953544439155903:True:=⟨⟩
theorem tw18013255380808108703:True:=⟨⟩
theorem tw6801187287606487123:True:=⟨⟩
theorem tw13787123227143403509:True:=⟨⟩
theorem tw18226430659049650498:True:=⟨⟩
theorem tw11686669354380979438:True:=⟨⟩
theorem tw2608347109399454539:True:=⟨⟩
theorem tw17469375387406016529:True:=⟨⟩
theorem tw12316137746107604177:True:=⟨⟩
theorem tw18416346026526945146:True:=⟨⟩
theorem tw1078407561475398464:True:=⟨⟩
theorem tw1028289980809797756:True:=⟨⟩
theorem tw6818998502653585794:True:=⟨⟩
theorem tw17223416574723230210:True:=⟨⟩
theorem tw3361141645239695550:True:=⟨⟩
theorem tw7176985939721430369:True:=⟨⟩
theorem tw3663626602204511448:True:=⟨⟩
theorem tw2618183437020501893:True:=⟨⟩
theorem tw13869865707484609456:True:=⟨⟩
theorem tw15644715789003518731:True:=⟨⟩
theorem tw4620474647118562759:True:=⟨⟩
theorem tw8298071211636718682:True:=⟨⟩
theorem tw14037962426041333048:True:=⟨⟩
theorem tw2716620123047545725:True:=⟨⟩
theorem tw16298562327372334035:True:=⟨⟩
theorem tw5220113014415550637:True:=⟨⟩
theorem tw693209880171846214:True:=⟨⟩
theorem tw14722561512224727868:True:=⟨⟩
theorem tw18134297486416198242:True:=⟨⟩
theorem tw9277266986025134022:True:=⟨⟩
theorem tw7880315277153861493:True:=⟨⟩
theorem tw1188777063257427906:True:=⟨⟩
theorem tw4024283286561983795:True:=⟨⟩
theorem tw8730133252219586468:True:=⟨⟩
theorem tw2279980775290103947:True:=⟨⟩
theorem tw8045121707578789727:True:=⟨⟩
theorem tw8672630864263698482:True:=⟨⟩
theorem tw4325798166304160446:True:=⟨⟩
theorem tw17919545318672124860:True:=⟨⟩
theorem tw11904072331557313021:True:=⟨⟩
theorem tw5244836274864761531:True:=⟨⟩
theorem tw2723036806803651993:True:=⟨⟩
theorem tw18083202684350748011:True:=⟨⟩
theorem tw9485945118022184508:True:=⟨⟩
theorem tw3000988724070374804:True:=⟨⟩
theorem tw8223051251863818784:True:=⟨⟩
theorem tw1964269769255386222:True:=⟨⟩
theorem tw16436126846553698950:True:=⟨⟩
theorem tw14261504135692912510:True:=⟨⟩
theorem tw2742063778797866707:True:=⟨⟩
theorem tw14082121157953098206:True:=⟨⟩
theorem tw11847569761237717815:True:=⟨⟩
theorem tw9820063039203794185:True:=⟨⟩
theorem tw4273319624368241303:True:=⟨⟩
theorem tw18275699738303813029:True:=⟨⟩
theorem tw4691596571205353041:True:=⟨⟩
theorem tw2436295667286038362:True:=⟨⟩
theorem tw3000872095556945978:True:=⟨⟩
theorem tw17475482676271276205:True:=⟨⟩
theorem tw1300139450254362909:True:=⟨⟩
theorem tw9686244807816092571:True:=⟨⟩
theorem tw14959662319926584590:True:=⟨⟩
theorem tw16701757269297183904:True:=⟨⟩
theorem tw552318390516340143:True:=⟨⟩
theorem tw16372802562322751344:True:=⟨⟩
theorem tw1579162577508095699:True:=⟨⟩
theorem tw11789766634043785471:True:=⟨⟩
theorem tw16524802191254691110:True:=⟨⟩
theorem tw11392239794201804322:True:=⟨⟩
theorem tw11082507010659020852:True:=⟨⟩
theorem tw9001833583186561531:True:=⟨⟩
theorem tw13416673121512857892:True:=⟨⟩
theorem tw4133515823718912913:True:=⟨⟩
theorem tw6909792945082638230:True:=⟨⟩
theorem tw11459809933913018798:True:=⟨⟩
theorem tw16090692138588450196:True:=⟨⟩
theorem tw5702313294629231916:True:=⟨⟩
theorem tw16967740318191462945:True:=⟨⟩
theorem tw16037961872606731980:True:=⟨⟩
theorem tw13500126858986578077:True:=⟨⟩
theorem tw13478083123194121114:True:=⟨⟩
theorem tw30014585922239270:True:=⟨⟩
theorem tw17807771465381067264:True:=⟨⟩
theorem tw8226730802334257492:True:=⟨⟩
theorem tw2661870182006737823:True:=⟨⟩
theorem tw8794386423500754537:True:=⟨⟩
theorem tw16630924369848405820:True:=⟨⟩
theorem tw14816738671149626987:True:=⟨⟩
theorem tw7635717217674345903:True:=⟨⟩
theorem tw4921233541518359703:True:=⟨⟩
theorem tw5757335946407748927:True:=⟨⟩
theorem tw10966461420112396820:True:=⟨⟩
theorem tw2474578033184720327:True:=⟨⟩
theorem tw11473235949248634179:True:=⟨⟩
theorem tw14638340082964778733:True:=⟨⟩
theorem tw11418097186548103529:True:=⟨⟩
theorem tw10851579950405494756:True:=⟨⟩
theorem tw11740979675538743012:True:=⟨⟩
theorem tw12630949833356028613:True:=⟨⟩
theorem tw11172020467459437326:True:=⟨⟩
theorem tw7810327968644515378:True:=⟨⟩
theorem tw12839162318979886130:True:=⟨⟩
theorem tw5603565388557805638:True:=⟨⟩
theorem tw15142452469492720550:True:=⟨⟩
theorem tw2017150353975871691:True:=⟨⟩
theorem tw1110635007072034881:True:=⟨⟩
theorem tw5678969950137686658:True:=⟨⟩
theorem tw499867985755453918:True:=⟨⟩
theorem tw4817765905544481376:True:=⟨⟩
theorem tw7087711568185332195:True:=⟨⟩
theorem tw8546602240611014758:True:=⟨⟩
theorem tw11823674801463721245:True:=⟨⟩
theorem tw6376088085985358755:True:=⟨⟩
theorem tw15289297420195322765:True:=⟨⟩
theorem tw8530394256385199576:True:=⟨⟩
theorem tw12882246467145391301:True:=⟨⟩
theorem tw9530886034017306757:True:=⟨⟩
theorem tw9392591561224094943:True:=⟨⟩
theorem tw5883170252167500026:True:=⟨⟩
theorem tw2024066877743217286:True:=⟨⟩
theorem tw11092841389122261397:True:=⟨⟩
theorem tw8428484048473631311:True:=⟨⟩
theorem tw6016307434788814116:True:=⟨⟩
theorem tw18073543837899354329:True:=⟨⟩
theorem tw8865803829760451844:True:=⟨⟩
theorem tw379259041065076311:True:=⟨⟩
theorem tw11694241045861315980:True:=⟨⟩
theorem tw5889752189080624841:True:=⟨⟩
theorem tw1184122770697100406:True:=⟨⟩
theorem tw14877143148800827978:True:=⟨⟩
theorem tw6591145195605459927:True:=⟨⟩
theorem tw14877252485346174573:True:=⟨⟩
theorem tw1903030817814392546:True:=⟨⟩
theorem tw6327564610795111789:True:=⟨⟩
theorem tw2962900708451115037:True:=⟨⟩
theorem tw9481682478451931752:True:=⟨⟩
theorem tw308838027611694692:True:=⟨⟩
theorem tw10839133235281044368:True:=⟨⟩
theorem tw17533275021326525050:True:=⟨⟩
theorem tw4453557990480310137:True:=⟨⟩
theorem tw16352414728611762824:True:=⟨⟩
theorem tw16908860681105543379:True:=⟨⟩
theorem tw1404892592261888748:True:=⟨⟩
theorem tw17247871875929972278:True:=⟨⟩
theorem tw10060161716003042806:True:=⟨⟩
theorem tw16676109873339729308:True:=⟨⟩
theorem tw15046887513996635714:True:=⟨⟩
theorem tw16801331264644640662:True:=⟨⟩
theorem tw15040181818793347387:True:=⟨⟩
theorem tw7601321745252406208:True:=⟨⟩
theorem tw13488723254719667713:True:=⟨⟩
theorem tw480115770555692008:True:=⟨⟩
theorem tw10032816770062226975:True:=⟨⟩
theorem tw5926455859635302520:True:=⟨⟩
theorem tw8530462394616125726:True:=⟨⟩
theorem tw9714562318865305531:True:=⟨⟩
theorem tw3774757505397312905:True:=⟨⟩
theorem tw7568503093583829705:True:=⟨⟩
theorem tw11104742677614793062:True:=⟨⟩
theorem tw11011190344373527317:True:=⟨⟩
theorem tw3282582680207126460:True:=⟨⟩
theorem tw15157412684247689968:True:=⟨⟩
theorem tw12614747333482323499:True:=⟨⟩
theorem tw11701613020637014643:True:=⟨⟩
theorem tw11925479588929663562:True:=⟨⟩
theorem tw4090661993460532872:True:=⟨⟩
theorem tw16606415136515422246:True:=⟨⟩
theorem tw14170005892351142541:True:=⟨⟩
theorem tw637886782989212755:True:=⟨⟩
theorem tw2443054589495943497:True:=⟨⟩
theorem tw7556314775928686571:True:=⟨⟩
theorem tw3801436727163366457:True:=⟨⟩
theorem tw11421095992692241883:True:=⟨⟩
theorem tw12282693970145149742:True:=⟨⟩
theorem tw13851857261453898132:True:=⟨⟩
theorem tw10646225048305778163:True:=⟨⟩
theorem tw14103717823914505427:True:=⟨⟩
theorem tw16953539563910862931:True:=⟨⟩
theorem tw11222722224031447254:True:=⟨⟩
theorem tw7090117970493815601:True:=⟨⟩
theorem tw17122615030220011290:True:=⟨⟩
theorem tw4326044615103635168:True:=⟨⟩
theorem tw7401127839451773162:True:=⟨⟩
theorem tw18018680273444804580:True:=⟨⟩
theorem tw15515385998415412559:True:=⟨⟩
theorem tw6229511249991710835:True:=⟨⟩
theorem tw4893195563441188183:True:=⟨⟩
theorem tw1796522036559743089:True:=⟨⟩
theorem tw10181188923980116575:True:=⟨⟩
theorem tw12812478124070419862:True:=⟨⟩
theorem tw17535160911193800767:True:=⟨⟩
theorem tw7888460779649843918:True:=⟨⟩
theorem tw3041476112429727355:True:=⟨⟩
theorem tw7615235961950613328:True:=⟨⟩
theorem tw9729561858270243817:True:=⟨⟩
theorem tw16096184000487549632:True:=⟨⟩
theorem tw4739327418922621659:True:=⟨⟩
theorem tw14176847856051758410:True:=⟨⟩
theorem tw4368955511502990317:True:=⟨⟩
theorem tw16640275954384037160:True:=⟨⟩
theorem tw1072798921434343209:True:=⟨⟩
theorem tw5655746990950240559:True:=⟨⟩
theorem tw4505846061616640244:True:=⟨⟩
theorem tw14107346929359098017:True:=⟨⟩
theorem tw9323575861531719605:True:=⟨⟩
theorem tw12687281916319067621:True:=⟨⟩
theorem tw11379185490659590701:True:=⟨⟩
theorem tw16666362106210878132:True:=⟨⟩
theorem tw4682938810584896494:True:=⟨⟩
theorem tw2408383402677490645:True:=⟨⟩
theorem tw6712147603792271646:True:=⟨⟩
theorem tw17144506644164749125:True:=⟨⟩
theorem tw13393711147057324673:True:=⟨⟩
theorem tw9318068316635742919:True:=⟨⟩
theorem tw5416441193968157124:True:=⟨⟩
theorem tw16173916566746079576:True:=⟨⟩
theorem tw9143841936542204562:True:=⟨⟩
theorem tw6710960378652087608:True:=⟨⟩
theorem tw190904615578045730:True:=⟨⟩
theorem tw8419547104758078665:True:=⟨⟩
theorem tw631198798613513840:True:=⟨⟩
theorem tw914348905323065424:True:=⟨⟩
theorem tw3287949576180793423:True:=⟨⟩
theorem tw17962879255995583855:True:=⟨⟩
theorem tw203777461174221218:True:=⟨⟩
theorem tw7580966418655723437:True:=⟨⟩
theorem tw749104804502563191:True:=⟨⟩
theorem tw17050269797772681452:True:=⟨⟩
theorem tw11535139523640504825:True:=⟨⟩
theorem tw2895518901899171573:True:=⟨⟩
theorem tw4980405051691642553:True:=⟨⟩
theorem tw18304087038893983607:True:=⟨⟩
theorem tw7651937687631807096:True:=⟨⟩
theorem tw916668735444708306:True:=⟨⟩
theorem tw2713631081625359625:True:=⟨⟩
theorem tw284599557702309056:True:=⟨⟩
theorem tw17300750245709165316:True:=⟨⟩
end PySem.W.Fast
open PySem PySem.W PyProof.Rows
set_option maxRecDepth 100000 in
set_option maxHeartbeats 0 in
theorem PySem.Challenge.cw_lentwork_k17_books_made_holds : PySem.Challenge.rw_lentwork_k17_books_made.Holds := by
  w_on; o_law; k_head; (case hw => w_witness2)
  k_fill
  refine Ls.walk (l := PySem.Challenge.rw_lentwork_k17_books_made) (TP := 453) (TG := 392) rfl rfl (fun w h Y => ⟨km_in_of Y, by kernel_rfl, Ls.tabsOk (km_tabs_of Y 453 (by k_mem)) (codeHd_of_K (c := 455) (P := 453) (km_in_of Y) (by kernel_rfl)) (km_tabs_of Y 392 (by k_mem)) (codeHd_of_K (c := 396) (P := 392) (km_in_of Y) (by kernel_rfl))⟩) ?F
  case F =>
    intro w mg fa h KX G hmg
    refine' Ls.all_mk (TP := 453) (TG := 392) (by decide) KX G hmg ?gCP ?gCS ?gCB ?nLentError ?nBadWork ?nBadBound ?nBadMoment ?nTwice ?a1 ?l1 ?c1 ?k1 ?a2 ?l2 ?c2 ?k2 ?a3 ?l3 ?c3 ?k3 ?a4 ?l4 ?c4 ?k4 ?a5 ?l5 ?c5 ?k5 ?a6 ?l6 ?c6 ?k6 ?a7 ?l7 ?c7 ?k7 ?a8 ?l8 ?c8 ?k8 ?a9 ?l9 ?c9 ?k9 ?a10 ?l10 ?c10 ?k10 ?a11 ?l11 ?c11 ?k11 ?a12 ?l12 ?c12 ?k12 ?t12 ?a13 ?l13 ?c13 ?k13 ?a14 ?l14 ?c14 ?k14 ?a15 ?l15 ?c15 ?k15 ?a16 ?l16 ?c16 ?k16 ?a17 ?l17 ?c17 ?k17 ?a18 ?l18 ?c18 ?k18 ?a19 ?i19 ?l19 ?c19 ?k19 ?a20 ?i20 ?l20 ?c20 ?k20 ?a21 ?i21 ?l21 ?c21 ?k21 ?a22 ?i22 ?l22 ?c22 ?k22 ?a23 ?i23 ?l23 ?c23 ?k23 ?a24 ?i24 ?l24 ?c24 ?k24 ?a25 ?i25 ?l25 ?c25 ?k25 ?a26 ?i26 ?l26 ?c26 ?k26 ?a27 ?i27 ?l27 ?c27 ?k27 ?a28 ?i28 ?l28 ?c28 ?k28 ?a29 ?i29 ?l29 ?c29 ?k29 ?a30 ?i30 ?l30 ?c30 ?k30 ?a31 ?i31 ?l31 ?c31 ?k31 ?a32 ?i32 ?l32 ?c32 ?k32 ?a33 ?i33 ?l33 ?c33 ?k33 ?a34 ?i34 ?l34 ?c34 ?k34 ?a35 ?i35 ?l35 ?c35 ?k35 ?a36 ?i36 ?l36 ?c36 ?k36 ?a37 ?i37 ?l37 ?c37 ?k37 ?a38 ?i38 ?l38 ?c38 ?k38 ?t38 ?a39 ?i39 ?l39 ?c39 ?k39 ?a40 ?i40 ?l40 ?c40 ?k40 ?a41 ?i41 ?l41 ?c41 ?k41 ?a42 ?i42 ?l42 ?c42 ?k42 ?a43 ?i43 ?l43 ?c43 ?k43 ?a44 ?i44 ?l44 ?c44 ?k44 ?a45 ?i45 ?l45 ?c45 ?k45 ?a46 ?i46 ?l46 ?c46 ?k46 ?a47 ?i47 ?l47 ?c47 ?k47 ?a48 ?l48 ?c48 ?k48 ?z0 ?z1 ?z2 ?z3 ?z4 ?z5 ?z6 ?z7 ?z8 ?z9 ?z10 ?z11 ?z12 ?z13 ?z14 ?pgCP ?hdCP ?poCP ?saCP ?mkCP ?kcCP ?nCP_number ?nCP_low ?nCP_high ?nCP_mark ?nCP_lending ?pgCS ?hdCS ?poCS ?saCS ?mkCS ?kcCS ?nCS_work ?nCS_results ?pgCB ?hdCB ?poCB ?saCB ?mkCB ?kcCB ?nCB_work ?nCB_span ?nCB_every ?nCB_least ?nCB_sheet ?nCB_by_number ?nCB_next_number ?nCB_next_token ?nCB_moment ?xBadWork ?clBadWork ?gaBadWork ?ghBadWork ?caBadWork ?moBadWork ?mbBadWork ?xBadBound ?clBadBound ?gaBadBound ?ghBadBound ?caBadBound ?moBadBound ?mbBadBound ?xTwice ?clTwice ?gaTwice ?ghTwice ?caTwice ?moTwice ?mbTwice ?hitBadWorkLentError ?hitBadBoundLentError ?noBadWorkBadBound ?noBadWorkBadMoment ?noBadBoundBadWork ?noBadBoundBadMoment ?cg ?ct
    (case gCP => k_is)
    (case gCS => k_is)
    (case gCB => k_is)
    (case nLentError => k_is)
    (case nBadWork => k_is)
    (case nBadBound => k_is)
    (case nBadMoment => k_is)
    (case nTwice => k_is)
    (case a1 => k_is)
    (case l1 => k_is)
    (case c1 => k_is)
    (case k1 => k_is)
    (case a2 => k_is)
    (case l2 => k_is)
    (case c2 => k_is)
    (case k2 => k_is)
    (case a3 => k_is)
    (case l3 => k_is)
    (case c3 => k_is)
    (case k3 => k_is)
    (case a4 => k_is)
    (case l4 => k_is)
    (case c4 => k_is)
    (case k4 => k_is)
    (case a5 => k_is)
    (case l5 => k_is)
    (case c5 => k_is)
    (case k5 => k_is)
    (case a6 => k_is)
    (case l6 => k_is)
    (case c6 => k_is)
    (case k6 => k_is)
    (case a7 => k_is)
    (case l7 => k_is)
    (case c7 => k_is)
    (case k7 => k_is)
    (case a8 => k_is)
    (case l8 => k_is)
    (case c8 => k_is)
    (case k8 => k_is)
    (case a9 => k_is)
    (case l9 => k_is)
    (case c9 => k_is)
    (case k9 => k_is)
    (case a10 => k_is)
    (case l10 => k_is)
    (case c10 => k_is)
    (case k10 => k_is)
    (case a11 => k_is)
    (case l11 => k_is)
    (case c11 => k_is)
    (case k11 => k_is)
    (case a12 => k_is)
    (case l12 => k_is)
    (case c12 => k_is)
    (case k12 => k_is)
    (case t12 => kernel_rfl)
    (case a13 => k_is)
    (case l13 => k_is)
    (case c13 => k_is)
    (case k13 => k_is)
    (case a14 => k_is)
    (case l14 => k_is)
    (case c14 => k_is)
    (case k14 => k_is)
    (case a15 => k_is)
    (case l15 => k_is)
    (case c15 => k_is)
    (case k15 => k_is)
    (case a16 => k_is)
    (case l16 => k_is)
    (case c16 => k_is)
    (case k16 => k_is)
    (case a17 => k_is)
    (case l17 => k_is)
    (case c17 => k_is)
    (case k17 => k_is)
    (case a18 => k_is)
    (case l18 => k_is)
    (case c18 => k_is)
    (case k18 => k_is)
    (case a19 => k_is)
    (case i19 => k_is)
    (case l19 => k_is)
    (case c19 => k_is)
    (case k19 => k_is)
    (case a20 => k_is)
    (case i20 => k_is)
    (case l20 => k_is)
    (case c20 => k_is)
    (case k20 => k_is)
    (case a21 => k_is)
    (case i21 => k_is)
    (case l21 => k_is)
    (case c21 => k_is)
    (case k21 => k_is)
    (case a22 => k_is)
    (case i22 => k_is)
    (case l22 => k_is)
    (case c22 => k_is)
    (case k22 => k_is)
    (case a23 => k_is)
    (case i23 => k_is)
    (case l23 => k_is)
    (case c23 => k_is)
    (case k23 => k_is)
    (case a24 => k_is)
    (case i24 => k_is)
    (case l24 => k_is)
    (case c24 => k_is)
    (case k24 => k_is)
    (case a25 => k_is)
    (case i25 => k_is)
    (case l25 => k_is)
    (case c25 => k_is)
    (case k25 => k_is)
    (case a26 => k_is)
    (case i26 => k_is)
    (case l26 => k_is)
    (case c26 => k_is)
    (case k26 => k_is)
    (case a27 => k_is)
    (case i27 => k_is)
    (case l27 => k_is)
    (case c27 => k_is)
    (case k27 => k_is)
    (case a28 => k_is)
    (case i28 => k_is)
    (case l28 => k_is)
    (case c28 => k_is)
    (case k28 => k_is)
    (case a29 => k_is)
    (case i29 => k_is)
    (case l29 => k_is)
    (case c29 => k_is)
    (case k29 => k_is)
    (case a30 => k_is)
    (case i30 => k_is)
    (case l30 => k_is)
    (case c30 => k_is)
    (case k30 => k_is)
    (case a31 => k_is)
    (case i31 => k_is)
    (case l31 => k_is)
    (case c31 => k_is)
    (case k31 => k_is)
    (case a32 => k_is)
    (case i32 => k_is)
    (case l32 => k_is)
    (case c32 => k_is)
    (case k32 => k_is)
    (case a33 => k_is)
    (case i33 => k_is)
    (case l33 => k_is)
    (case c33 => k_is)
    (case k33 => k_is)
    (case a34 => k_is)
    (case i34 => k_is)
    (case l34 => k_is)
    (case c34 => k_is)
    (case k34 => k_is)
    (case a35 => k_is)
    (case i35 => k_is)
    (case l35 => k_is)
    (case c35 => k_is)
    (case k35 => k_is)
    (case a36 => k_is)
    (case i36 => k_is)
    (case l36 => k_is)
    (case c36 => k_is)
    (case k36 => k_is)
    (case a37 => k_is)
    (case i37 => k_is)
    (case l37 => k_is)
    (case c37 => k_is)
    (case k37 => k_is)
    (case a38 => k_is)
    (case i38 => k_is)
    (case l38 => k_is)
    (case c38 => k_is)
    (case k38 => k_is)
    (case t38 => kernel_rfl)
    (case a39 => k_is)
    (case i39 => k_is)
    (case l39 => k_is)
    (case c39 => k_is)
    (case k39 => k_is)
    (case a40 => k_is)
    (case i40 => k_is)
    (case l40 => k_is)
    (case c40 => k_is)
    (case k40 => k_is)
    (case a41 => k_is)
    (case i41 => k_is)
    (case l41 => k_is)
    (case c41 => k_is)
    (case k41 => k_is)
    (case a42 => k_is)
    (case i42 => k_is)
    (case l42 => k_is)
    (case c42 => k_is)
    (case k42 => k_is)
    (case a43 => k_is)
    (case i43 => k_is)
    (case l43 => k_is)
    (case c43 => k_is)
    (case k43 => k_is)
    (case a44 => k_is)
    (case i44 => k_is)
    (case l44 => k_is)
    (case c44 => k_is)
    (case k44 => k_is)
    (case a45 => k_is)
    (case i45 => k_is)
    (case l45 => k_is)
    (case c45 => k_is)
    (case k45 => k_is)
    (case a46 => k_is)
    (case i46 => k_is)
    (case l46 => k_is)
    (case c46 => k_is)
    (case k46 => k_is)
    (case a47 => k_is)
    (case i47 => k_is)
    (case l47 => k_is)
    (case c47 => k_is)
    (case k47 => k_is)
    (case a48 => k_is)
    (case l48 => k_is)
    (case c48 => k_is)
    (case k48 => k_is)
    (case z0 => k_is)
    (case z1 => k_is)
    (case z2 => k_is)
    (case z3 => k_is)
    (case z4 => k_is)
    (case z5 => k_is)
    (case z6 => k_is)
    (case z7 => k_is)
    (case z8 => k_is)
    (case z9 => k_is)
    (case z10 => k_is)
    (case z11 => k_is)
    (case z12 => k_is)
    (case z13 => k_is)
    (case z14 => k_is)
    (case pgCP => k_is)
    (case hdCP => k_is)
    (case poCP => k_is)
    (case saCP => k_is)
    (case mkCP => k_is)
    (case kcCP => k_is)
    (case nCP_number => k_is)
    (case nCP_low => k_is)
    (case nCP_high => k_is)
    (case nCP_mark => k_is)
    (case nCP_lending => k_is)
    (case pgCS => k_is)
    (case hdCS => k_is)
    (case poCS => k_is)
    (case saCS => k_is)
    (case mkCS => k_is)
    (case kcCS => k_is)
    (case nCS_work => k_is)
    (case nCS_results => k_is)
    (case pgCB => k_is)
    (case hdCB => k_is)
    (case poCB => k_is)
    (case saCB => k_is)
    (case mkCB => k_is)
    (case kcCB => k_is)
    (case nCB_work => k_is)
    (case nCB_span => k_is)
    (case nCB_every => k_is)
    (case nCB_least => k_is)
    (case nCB_sheet => k_is)
    (case nCB_by_number => k_is)
    (case nCB_next_number => k_is)
    (case nCB_next_token => k_is)
    (case nCB_moment => k_is)
    (case xBadWork => k_exc)
    (case clBadWork => kernel_rfl)
    (case gaBadWork => k_is)
    (case ghBadWork => k_is)
    (case caBadWork => k_is)
    (case moBadWork => k_is)
    (case mbBadWork => k_is)
    (case xBadBound => k_exc)
    (case clBadBound => kernel_rfl)
    (case gaBadBound => k_is)
    (case ghBadBound => k_is)
    (case caBadBound => k_is)
    (case moBadBound => k_is)
    (case mbBadBound => k_is)
    (case xTwice => k_exc)
    (case clTwice => kernel_rfl)
    (case gaTwice => k_is)
    (case ghTwice => k_is)
    (case caTwice => k_is)
    (case moTwice => k_is)
    (case mbTwice => k_is)
    (case hitBadWorkLentError => kernel_rfl)
    (case hitBadBoundLentError => kernel_rfl)
    (case noBadWorkBadBound => kernel_rfl)
    (case noBadWorkBadMoment => kernel_rfl)
    (case noBadBoundBadWork => kernel_rfl)
    (case noBadBoundBadMoment => kernel_rfl)
    (case cg => k_is)
    (case ct => k_is)

