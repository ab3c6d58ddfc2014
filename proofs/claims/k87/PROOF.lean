import PyProof.Rows.All
import Wide.All
import OpenK.AllK
import Wide.FinOn
import Lean
import PyProof.EqAt
import PyProof.EqKinds
import PyProof.TupleCall
import PySem.Challenge.RW_earlyscribe_k87_whole_two_ways_from_the
set_option maxHeartbeats 4000000
set_option Elab.async false
set_option linter.all false
set_option maxRecDepth 100000
namespace L2
open PySem PySem.Spec PyProof.Rows
abbrev Key:=Sum Int Str
def ϡK:Key→Value→Bool
 |.inl k,v=>Value.isInt k v
 |.inr x,v=>Value.isStrOf x v
def keyH (w:World):Key→Int
 |.inl k=>hashInt k
 |.inr x=>hashStr w x
theorem ϑc:∀{k:Key}{v:Value},ϡK k v=true→(∃ i t,k=Sum.inl i∧v=Value.int i t)∨(∃ x t,k=Sum.inr x∧v=Value.str x t)
 |.inl i,v,h=>by
  obtain⟨t,e⟩:=Value.isInt_shape (k:=i) (v:=v) h
  exact .inl ⟨i,t,rfl,e⟩
 |.inr x,v,h=>by
  obtain⟨t,e⟩:=Value.isStrOf_shape (x:=x) (v:=v) h
  exact .inr ⟨x,t,rfl,e⟩
theorem ϟM (i:Int) (t:Tok):ϡK (.inl i) (.int i t)=true:=by simp[ϡK,Value.isInt]
theorem ϟA (x:Str) (t:Tok):ϡK (.inr x) (.str x t)=true:=by simp[ϡK,Value.isStrOf]
theorem key_ll (a b:Int):decide ((Sum.inl a:Key)=Sum.inl b)=(a == b):=by
 by_cases e:a=b
 ·subst e;simp
 ·have h:¬ (Sum.inl a:Key)=Sum.inl b:=fun q=>e (Sum.inl.inj q)
  rw[decide_eq_false h]
  exact(beq_eq_false_iff_ne.mpr e).symm
theorem key_rr (a b:Str):decide ((Sum.inr a:Key)=Sum.inr b)=decide (a=b):=by
 by_cases e:a=b
 ·subst e;simp
 ·have h:¬ (Sum.inr a:Key)=Sum.inr b:=fun q=>e (Sum.inr.inj q)
  rw[decide_eq_false h,decide_eq_false e]
theorem key_lr (a:Int) (b:Str):decide ((Sum.inl a:Key)=Sum.inr b)=false:=decide_eq_false (fun q=>nomatch q)
theorem key_rl (a:Str) (b:Int):decide ((Sum.inr a:Key)=Sum.inl b)=false:=decide_eq_false (fun q=>nomatch q)
def ϖ0 (prog:Program) (w:World):PySem.KeyKind prog w Key where
 is:=ϡK
 hash:=keyH w
 inj:=fun v a b ha hb=>by
  rcases ϑc ha with⟨i,t,rfl,rfl⟩|⟨x,t,rfl,rfl⟩
  ·rcases ϑc hb with⟨j,u,rfl,e⟩|⟨y,u,rfl,e⟩
   ·injection e with e1 _;rw[e1]
   ·exact nomatch e
  ·rcases ϑc hb with⟨j,u,rfl,e⟩|⟨y,u,rfl,e⟩
   ·exact nomatch e
   ·injection e with e1 _;rw[e1]
 byValue:=fun k v h=>by
  rcases ϑc h with⟨i,t,rfl,rfl⟩|⟨x,t,rfl,rfl⟩<;>rfl
 pyHash:=fun hv h=>by
  rcases ϑc hv with⟨i,t,rfl,rfl⟩|⟨x,t,rfl,rfl⟩
  ·exact wpAny_pyHash_int h
  ·exact wpAny_pyHash_str h
 eqBool:=fun hu hv h=>by
  rcases ϑc hu with⟨i,t,rfl,rfl⟩|⟨x,t,rfl,rfl⟩
  ·rcases ϑc hv with⟨j,u,rfl,rfl⟩|⟨y,u,rfl,rfl⟩
   ·rw[key_ll] at h;exact wpAny_eqBool_int h
   ·rw[key_lr] at h;exact SeqAt.EqAt.int_str i t y u _ _ _ _ h
  ·rcases ϑc hv with⟨j,u,rfl,rfl⟩|⟨y,u,rfl,rfl⟩
   ·rw[key_rl] at h;exact SeqAt.EqAt.str_int x t j u _ _ _ _ h
   ·rw[key_rr] at h;exact wpAny_eqBool_str h
 «strs»:=fun k x t v h=>by
  rcases ϑc h with⟨i,u,rfl,e⟩|⟨y,u,rfl,e⟩
  ·exact nomatch e
  ·injection e with e1 _
   subst e1
   cases v<;>rfl
theorem ϲG (prog:Program) (w:World) (i:Int) (t:Tok):(ϖ0 prog w).is (.inl i) (.int i t)=true:=ϟM i t
theorem ϲ5 (prog:Program) (w:World) (x:Str) (t:Tok):(ϖ0 prog w).is (.inr x) (.str x t)=true:=ϟA x t
end L2
namespace L2
open PySem PySem.Spec PyProof.Rows
inductive V where
 |non|bl (b:Bool)|int (i:Int)|str (x:Str)|byt (b:Array UInt8)|flt (b:UInt64)|ref (a:Addr)|ty (n:String)
 deriving DecidableEq
def RelV:V→Value→Prop
 |.non,u=>u=Value.none
 |.bl b,u=>u=Value.bool b
 |.int i,u=>∃t,u=Value.int i t
 |.str x,u=>∃t,u=Value.str x t
 |.byt b,u=>∃t,u=Value.bytes b t
 |.flt b,u=>∃t,u=Value.float b t
 |.ref a,u=>u=Value.ref a
 |.ty n,u=>u=Value.type n
abbrev Vals:List V→List Value→Prop:=Paired RelV
theorem Vals.length {xs:List V}{us:List Value} (r:Vals xs us):xs.length=us.length:=Paired.length r
theorem Vals.get:∀{xs:List V}{us:List Value}{i:Nat}{x:V},Vals xs us→xs[i]?=some x→∃u,us[i]?=some u∧RelV x u
 |_,_,_,_,.nil,e=>by simp at e
 |_,_,0,_,.cons r _,e=>by simp at e;subst e;exact⟨_,rfl,r⟩
 |_,_,i+1,x,.cons _ t,e=>by
  obtain⟨u,h1,h2⟩:=Vals.get (i:=i) (x:=x) t (by simpa using e)
  exact⟨u,by simpa using h1,h2⟩
theorem Vals.set {x:V}{u:Value} (r:RelV x u):∀{xs:List V}{us:List Value} (i:Nat),Vals xs us→Vals (xs.set i x) (us.set i u)
 |_,_,_,.nil=>.nil
 |_,_,0,.cons _ t=>.cons r t
 |_,_,i+1,.cons q t=>.cons q (Vals.set r i t)
theorem Vals.append:∀{xs ys:List V}{us ws:List Value},Vals xs us→Vals ys ws→Vals (xs++ys) (us++ws)
 |_,_,_,_,.nil,s=>s
 |_,_,_,_,.cons r t,s=>.cons r (Vals.append t s)
theorem Vals.take:∀{xs:List V}{us:List Value} (n:Nat),Vals xs us→Vals (xs.take n) (us.take n)
 |_,_,0,_=>.nil
 |_,_,_+1,.nil=>.nil
 |_,_,n+1,.cons r t=>.cons r (Vals.take n t)
theorem Vals.drop:∀{xs:List V}{us:List Value} (n:Nat),Vals xs us→Vals (xs.drop n) (us.drop n)
 |_,_,0,r=>r
 |_,_,_+1,.nil=>.nil
 |_,_,n+1,.cons _ t=>Vals.drop n t
def RelO:Option V→Option Value→Prop
 |some v,some u=>RelV v u
 |none,none=>True
 |_,_=>False
def KV {κ:Type}:List (κ×V)→List (κ×Value)→Prop:=Paired fun (p:κ×V) (q:κ×Value)=>p.1=q.1∧RelV p.2 q.2
def kV:Key→V
 |.inl i=>.int i
 |.inr x=>.str x
inductive HO where
 |lst (xs:List V)
 |tup (xs:List V)
 |dK (kvs:List (Key×V))|dT (kvs:List (List Key×V))
 |set (S:Int→Bool) (n:Nat)
 |ins (C dx:Addr) (fs:List (Str×V))
 |own (x:Addr)
 |xd (fs:List (Str×V))
 |met (f x:Addr)
 |rng (lo hi:Int)
 |frz (o:Obj) (u:HO)
 |tbl (ps:Array Value)
 |ext (φ:Heap→Prop)
abbrev Hp:=Addr→Option HO
def upd (H:Hp) (a:Addr) (o:HO):Hp:=fun b=>if b=a then some o else H b
theorem ϖd {H:Hp}{a:Addr}{o:HO}:upd H a o a=some o:=by unfold upd;rw[if_pos rfl]
theorem ϖq {H:Hp}{a b:Addr}{o:HO} (h:b≠a):upd H a o b=H b:=by unfold upd;rw[if_neg h]
theorem ne_of {H:Hp}{a b:Addr}{o u:HO} (h:H a=some o) (h':H b=some u) (d:o≠u):a≠b:=by
 intro e;subst e;rw[h] at h';exact d (Option.some.inj h')
theorem ϖn {H:Hp}{a b:Addr}{o:HO} (h:H a=some o) (h':H b=none):a≠b:=by
 intro e;subst e;rw[h] at h';cases h'
section
variable (P:Program) (w:World)
def ObjOk (H:Hp) (h:Heap) (a:Addr):HO→Prop
 |.lst xs=>xs.length≤sizeLine∧∃(its:List Value) (n:Nat),Vals xs its∧h.get? a=some { cls:=.type "list",data:=.seq its.toArray n }
 |.tup xs=>xs.length≤sizeLine∧∃its:List Value,Vals xs its∧IsTup h a its.toArray
 |.dK kvs=>kvs.length≤sizeLine∧(a == sysModules)=false∧∃vs,KV kvs vs∧h.DictOf (ϖ0 P w) a vs
 |.dT kvs=>kvs.length≤sizeLine∧(a == sysModules)=false∧∃xs:List (List Key×Addr×Value),
   Paired (fun (p:List Key×V) (q:List Key×Addr×Value)=>p.1=q.1∧H q.2.1=some (.tup (p.1.map kV))∧RelV p.2 q.2.2) kvs xs ∧
   ∃o es ep,h.get? a=some o∧o.ExactDict∧o.data=.dict es ep∧es.toList=xs.map (entryOfKey (tupleKind (ϖ0 P w)))∧(xs.map (·.1)).Nodup
 |.set S n=>h.SetOf (intKind P w) a S n
 |.ins C dx fs=>H dx=some (.own a)∧fs.length≤1000∧dx≠a∧h.get? a=some (PySem.W.instObj C dx) ∧
   ∃mA,h.Ns1 dx mA∧(∀ f,RelO (fs.lookup f) (mA f))∧PySem.Within mA (fs.map (·.1))
 |.own _=>∃o,h.get? a=some o
 |.xd fs=>∃mA,h.Ns1 a mA∧∀f,RelO (fs.lookup f) (mA f)
 |.rng lo hi=>∃t u v,h.get? a=some { cls:=.type "range",data:=.fields #[.int lo t,.int hi u,.int 1 v] }
 |.frz o u=>h.get? a=some o∧ObjOk H h a u
 |.tbl ps=>h.get? a=some { cls:=.none,data:=.fields ps }
 |.met f x=>h.get? a=some (PySem.W.methodObj (.ref f) (.ref x))
 |.ext φ=>φ h∧(∃ o,h.get? a=some o)∧∀h1 h2:Heap,φ h1→(∀ o,h1.get? a=some o→h2.get? a=some o)→φ h2
def HOk (H:Hp) (h:Heap):Prop:=∀a o,H a=some o→ObjOk P w H h a o
end
section
variable {P:Program}{w:World}{H H':Hp}{h h':Heap}{a:Addr}{o:HO}
theorem ObjOk.lt (x:ObjOk P w H h a o):a < h.objs.size:=by
 cases o with
 |lst xs=>obtain⟨_,_,_,_,e⟩:=x;exact Heap.lt_size e
 |tup xs=>obtain⟨_,_,_,p⟩:=x;exact p.lt
 |dK kvs=>obtain⟨_,_,_,_,o,_,_,e,_⟩:=x;exact Heap.lt_size e
 |dT kvs=>obtain⟨_,_,_,_,o,_,_,e,_⟩:=x;exact Heap.lt_size e
 |set S n=>obtain⟨o,_,_,_,e,_⟩:=x;exact Heap.lt_size e
 |ins C dx fs=>obtain⟨_,_,_,e,_⟩:=x;exact Heap.lt_size e
 |own y=>obtain⟨_,e⟩:=x;exact Heap.lt_size e
 |xd fs=>obtain⟨_,⟨_,_,_,e,_⟩,_⟩:=x;exact Heap.lt_size e
 |rng lo hi=>obtain⟨_,_,_,e⟩:=x;exact Heap.lt_size e
 |frz ob u=>obtain⟨e,_⟩:=x;exact Heap.lt_size e
 |tbl ps=>exact Heap.lt_size (show h.get? a=some _ from x)
 |met f y=>exact Heap.lt_size (show h.get? a=some _ from x)
 |ext φ=>obtain⟨_,⟨_,e⟩,_⟩:=x;exact Heap.lt_size e
theorem Paired.mapP {α β:Type}{F G:α→β→Prop}:∀{l₁:List α}{l₂:List β},Paired F l₁ l₂→(∀ a b,F a b→G a b)→Paired G l₁ l₂
 |_,_,.nil,_=>.nil
 |_,_,.cons r t,f=>.cons (f _ _ r) (Paired.mapP t f)
theorem ObjOk.stay (x:ObjOk P w H h a o) (k:∀b u,(b=a∨H b=some (.own a))→h.get? b=some u→h'.get? b=some u)
  (ho:∀b,H b=some (.own a)→H' b=some (.own a)) (ht:∀b xs,H b=some (.tup xs)→H' b=some (.tup xs)):ObjOk P w H' h' a o:=by
 induction o with
 |lst xs=>obtain⟨z,its,n,r,e⟩:=x;exact⟨z,its,n,r,k _ _ (.inl rfl) e⟩
 |tup xs=>obtain⟨z,its,r,ob,e,c⟩:=x;exact⟨z,its,r,ob,k _ _ (.inl rfl) e,c⟩
 |dK kvs=>obtain⟨z,y,vs,r,ob,es,ep,e,c⟩:=x;exact⟨z,y,vs,r,ob,es,ep,k _ _ (.inl rfl) e,c⟩
 |dT kvs=>
  obtain⟨z,y,xs,r,ob,es,ep,e,c⟩:=x
  exact⟨z,y,xs,Paired.mapP r fun p q z=>⟨z.1,ht _ _ z.2.1,z.2.2⟩,ob,es,ep,k _ _ (.inl rfl) e,c⟩
 |set S n=>obtain⟨ob,es,ep,t,e,c⟩:=x;exact⟨ob,es,ep,t,k _ _ (.inl rfl) e,c⟩
 |ins C dx fs=>
  obtain⟨d,z,ne,e,mA,⟨od,es,ep,e2,c⟩,r⟩:=x
  exact⟨ho _ d,z,ne,k _ _ (.inl rfl) e,mA,⟨od,es,ep,k _ _ (.inr d) e2,c⟩,r⟩
 |own y=>obtain⟨ob,e⟩:=x;exact⟨ob,k _ _ (.inl rfl) e⟩
 |xd fs=>obtain⟨mA,⟨od,es,ep,e,c⟩,r⟩:=x;exact⟨mA,⟨od,es,ep,k _ _ (.inl rfl) e,c⟩,r⟩
 |rng lo hi=>obtain⟨t,u,v,e⟩:=x;exact⟨t,u,v,k _ _ (.inl rfl) e⟩
 |frz ob u ih=>obtain⟨e,q⟩:=x;exact⟨k _ _ (.inl rfl) e,ih q⟩
 |tbl ps=>
  have e:h.get? a=some { cls:=.none,data:=.fields ps }:=x
  show h'.get? a=some { cls:=.none,data:=.fields ps }
  exact k a _ (.inl rfl) e
 |met f y=>
  have e:h.get? a=some (PySem.W.methodObj (.ref f) (.ref y)):=x
  show h'.get? a=some (PySem.W.methodObj (.ref f) (.ref y))
  exact k a _ (.inl rfl) e
 |ext φ=>obtain⟨p,⟨o,e⟩,st⟩:=x;exact⟨st _ _ p fun o q=>k _ _ (.inl rfl) q,⟨o,k _ _ (.inl rfl) e⟩,st⟩
theorem HOk.lt (x:HOk P w H h) (e:H a=some o):a < h.objs.size:=(x a o e).lt
theorem HOk.fresh (x:HOk P w H h) (e:h.objs.size≤a):H a=none:=by
 cases q:H a with
 |none=>rfl
 |some u=>exact absurd (Nat.lt_of_lt_of_le (x.lt q) e) (Nat.lt_irrefl _)
theorem HOk.kept (x:HOk P w H h) (k:∀b u,h.get? b=some u→h'.get? b=some u):HOk P w H h':=fun a o e=>
 (x a o e).stay (fun b u _ q=>k b u q) (fun _ q=>q) fun _ _ q=>q
theorem HOk.laid (x:HOk P w H h) (k:∀b u,h.get? b=some u→h'.get? b=some u) (hp:h.objs.size≤a) (new:ObjOk P w (upd H a o) h' a o):HOk P w (upd H a o) h':=fun b u e=>by
 have hn:=x.fresh hp
 by_cases hb:b=a
 ·subst hb;rw[ϖd] at e;cases e;exact new
 ·rw[ϖq hb] at e
  exact(x b u e).stay (fun c v _ q=>k c v q) (fun c q=>by rw[ϖq (ϖn q hn)];exact q) fun c xs q=>by rw[ϖq (ϖn q hn)];exact q
end
def Rd (H:Hp) (a:Addr) (u:HO):Prop:=H a=some u∨∃o,H a=some (.frz o u)
theorem Rd.ok {P:Program}{w:World}{H:Hp}{h:Heap}{a:Addr}{u:HO} (r:Rd H a u) (x:HOk P w H h):ObjOk P w H h a u:=by
 rcases r with r|⟨o,r⟩
 ·exact x a u r
 ·obtain⟨_,q⟩:=x a _ r
  exact q
def Mut:Option HO→Prop
 |some (.lst _)=>True
 |some (.dK _)=>True
 |some (.dT _)=>True
 |some (.set _ _)=>True
 |some (.ins _ _ _)=>True
 |some (.ext _)=>True
 |_=>False
section
variable {P:Program}{w:World}{H:Hp}{h h':Heap}{x e:Addr}{o':HO}
theorem HOk.write (ok:HOk P w H h) (mu:Mut (H x)) (he:e=x∨H e=some (.own x)) (k:∀b u,b≠e→h.get? b=some u→h'.get? b=some u) (heo:∃u,h'.get? e=some u)
  (new:ObjOk P w (upd H x o') h' x o'):HOk P w (upd H x o') h':=fun b u q=>by
 have nown:∀c y,H c=some (.own y)→c≠x:=fun c y r z=>by subst z;rw[r] at mu;exact mu
 have ntup:∀c xs,H c=some (.tup xs)→c≠x:=fun c xs r z=>by subst z;rw[r] at mu;exact mu
 by_cases hb:b=x
 ·subst hb;rw[ϖd] at q;cases q;exact new
 ·rw[ϖq hb] at q
  by_cases hbe:b=e
  ·have q':H b=some (.own x):=by
    rcases he with z|z
    ·exact absurd (hbe.trans z) hb
    ·rw[hbe];exact z
   rw[q] at q';cases q'
   obtain⟨v,hv⟩:=heo
   exact⟨v,by rw[hbe];exact hv⟩
  ·refine(ok b u q).stay (fun c v hc r=>k c v ?_ r) (fun c r=>by rw[ϖq (nown c b r)];exact r) fun c xs r=>by rw[ϖq (ntup c xs r)];exact r
   rcases hc with rfl|hc
   ·exact hbe
   ·rintro rfl
    rcases he with z|z
    ·exact nown c b hc z
    ·rw[hc] at z;cases z;exact hb rfl
end
structure Un (fs ex:List Addr) (H H':Hp) (h h':Heap):Prop where
 keep:∀b o,h.get? b=some o→H b=none→b∉fs→b∉ex→h'.get? b=some o
 slot:∀b o,h.get? b=some o→H b=none→b∈fs→b∉ex→∃sl,h'.get? b=some { o with slots:=sl }
 free:∀b o,h.get? b=some o→H b=none→b∉ex→H' b=none
 there:∀b o,h.get? b=some o→b∉ex→∃o',h'.get? b=some o'
 tups:∀b xs,H b=some (.tup xs)→H' b=some (.tup xs)
 frzs:∀b o u,H b=some (.frz o u)→H' b=some (.frz o u)
 tbls:∀b ps,H b=some (.tbl ps)→∃more,H' b=some (.tbl (ps++more))
section
variable {fs fs' ex ex':List Addr}{H H1 H2:Hp}{h h1 h2 h':Heap}{a x e:Addr}{o:HO}
theorem Un.any (u:Un fs ex H H1 h h1) {b:Addr}{ob:Obj} (q:h.get? b=some ob) (n:H b=none) (hx:b∉ex):∃sl,h1.get? b=some { ob with slots:=sl }:=by
 by_cases hb:b∈fs
 ·exact u.slot b ob q n hb hx
 ·exact⟨ob.slots,u.keep b ob q n hb hx⟩
theorem Un.kept (k:∀b u,h.get? b=some u→h'.get? b=some u):Un fs ex H H h h':=
 ⟨fun b ob q _ _ _=>k b ob q,fun b ob q _ _ _=>⟨ob.slots,k b ob q⟩,fun _ _ _ n _=>n,fun b ob q _=>⟨ob,k b ob q⟩,fun _ _ q=>q,fun _ _ _ q=>q,fun _ ps q=>⟨#[],by rw[q];simp⟩⟩
theorem Un.refl:Un fs ex H H h h:=Un.kept fun _ _ q=>q
theorem Un.laid (k:∀b u,h.get? b=some u→h'.get? b=some u) (hp:h.objs.size≤a) (hn:H a=none):Un fs ex H (upd H a o) h h' where
 keep:=fun b u q _ _ _=>k b u q
 slot:=fun b u q _ _ _=>⟨u.slots,k b u q⟩
 free:=fun b u q n _=>by rw[ϖq (Nat.ne_of_lt (Nat.lt_of_lt_of_le (Heap.lt_size q) hp))];exact n
 there:=fun b u q _=>⟨u,k b u q⟩
 tups:=fun b xs q=>by rw[ϖq (ϖn q hn)];exact q
 frzs:=fun b u xs q=>by rw[ϖq (ϖn q hn)];exact q
 tbls:=fun b ps q=>⟨#[],by rw[ϖq (ϖn q hn),q];simp⟩
theorem Un.write (mu:Mut (H x)) (he:e=x∨H e=some (.own x)) (k:∀b u,b≠e→h.get? b=some u→h'.get? b=some u) (heo:∃u,h'.get? e=some u):Un fs ex H (upd H x o) h h':=by
 have hx:∀b,H b=none→b≠x:=fun b n z=>by subst z;rw[n] at mu;exact mu
 have hb:∀b,H b=none→b≠e:=fun b n z=>by
  subst z
  rcases he with r|r
  ·exact hx b n r
  ·rw[n] at r;cases r
 have hm:∀b u,H b=some u→¬ Mut (some u)→b≠x:=fun b u q nm z=>by subst z;rw[q] at mu;exact nm mu
 refine⟨fun b u q n _ _=>k b u (hb b n) q,fun b u q n _ _=>⟨u.slots,k b u (hb b n) q⟩,fun b u q n _=>by rw[ϖq (hx b n)];exact n,fun b u q _=>?_,
  fun b xs q=>by rw[ϖq (hm b _ q fun z=>z)];exact q,fun b u xs q=>by rw[ϖq (hm b _ q fun z=>z)];exact q,fun b ps q=>⟨#[],by rw[ϖq (hm b _ q fun z=>z),q];simp⟩⟩
 by_cases hbe:b=e
 ·subst hbe;exact heo
 ·exact⟨u,k b u hbe q⟩
end
def trk (h:Heap) (H:Hp):List Addr:=(List.range h.objs.size).filter fun a=>(H a).isSome
def hidT (h:Heap) (H:Hp):Heap:=PySem.W.hideAll h (trk h H)
theorem ϟf (h:Heap) (H:Hp):(hidT h H).objs.size=h.objs.size:=PySem.W.hideAll_size _ _
theorem ϟ8 {h:Heap}{H:Hp}{b:Addr}{o:Obj} (e:h.get? b=some o) (n:H b=none):(hidT h H).get? b=some o:=
 PySem.W.hideAll_get _ e fun hm=>by
  have q:(H b).isSome=true:=(List.mem_filter.mp hm).2
  rw[n] at q;simp at q
theorem ϛr {h:Heap}{H:Hp}{b:Addr}{o:Obj} (e:(hidT h H).get? b=some o):h.get? b=some o∧H b=none:=by
 have e':h.get? b=some o:=PySem.W.of_hideAll (trk h H) e
 refine⟨e',?_⟩
 cases q:H b with
 |none=>rfl
 |some x=>
  have hm:b∈trk h H:=List.mem_filter.mpr ⟨List.mem_range.mpr (Heap.lt_size e'),by simp[q]⟩
  have z:(hidT h H).get? b=none:=PySem.W.hideAll_none (trk h H) hm
  rw[z] at e;cases e
def ϛF (g h:Heap) (L:Addr):List (Addr×Obj):=(List.range h.objs.size).filterMap fun a=>if a=L∨(g.get? a).isSome=true then none else (h.get? a).map fun o=>(a,o)
def rest (g h:Heap) (L d:Addr):List (Addr×Obj):=(ϛF g h L).filter fun p=>decide (p.1≠d)
end L2
namespace L2
open PySem PySem.Spec PyProof.Rows
structure Mod (K:PySem.W.Frag) (mg:Str→Option Value) (base:Heap):Prop where
 kin:K.In base
 glob:base.Ns mainGlobals mg
 blt:∃mb,base.Ns builtinsNs mb∧∀x:Str,x≠"__name__"→mb x=bootBuiltins x
 nolimit:base.NoLimit
structure Cx where
 prog:Program
 w:World
 K:PySem.W.Frag
 mg:Str→Option Value
 base:Heap
 A:Around
 N:List Str
 s₀:Shared
 H₀:Hp
 env:Env
 outer:List Env
 stack:List Env
 ex:List Addr
 fn:Str→Bool
 calm:Bool
 pn:List (Addr×Obj)
 xe:Value→Shared→Prop
def frs (l:List Env):List Addr:=l.filterMap (·.frame)
abbrev Cx.fs (X:Cx):List Addr:=frs X.outer
def Vis (sc:Scope) (x:Str):Prop:=sc.names.lookup x=some .local∨sc.names.lookup x=some .cell∨sc.names.lookup x=some .free
def Loc (sc:Scope) (x:Str):Prop:=sc.names.lookup x=some .local∨sc.names.lookup x=some .cell
def Look (env:Env) (h:Heap) (m:Str→Option Value) (x:Str) (u:Value):Prop:=
 (env.kindOf x=some .local∧m x=some u)∨((env.kindOf x=some .cell∨env.kindOf x=some .free)∧∃c,env.cells.lookup x=some c∧h.IsCell c (some u))
structure Cx.Ok (X:Cx):Prop where
 mod:Mod X.K X.mg X.base
 kind:X.env.scope.kind=.function
 glob:X.env.globals=mainGlobals
 blt:X.env.builtins=builtinsNs
 above:X.s₀.heap.objs.size≤X.env.locals
 inj:∀x y c,X.env.cells.lookup x=some c→X.env.cells.lookup y=some c→x=y
 has:∀x,(X.env.kindOf x=some .cell∨X.env.kindOf x=some .free)→∃c,X.env.cells.lookup x=some c
 cab:∀x c,X.fn x=true→X.env.cells.lookup x=some c→X.s₀.heap.objs.size≤c
 hd:X.calm=true→X.A.handled=none
 frames:X.A.frames=some X.stack
 stk:X.stack=X.outer∨(X.stack=X.env::X.outer∧X.env.frame=some X.env.locals)
 exf:∀b∈X.ex,b≠X.env.locals∧∀x c,X.env.cells.lookup x=some c→c≠b
 bs:∀b o,X.base.get? b=some o→X.s₀.heap.get? b=some o∧X.H₀ b=none
 bsz:X.base.objs.size≤X.s₀.heap.objs.size
 noex:∀b o,X.base.get? b=some o→b∉X.ex
 exfs:∀b∈X.ex,b∉X.fs
 funs:X.s₀.heap.FunFrames X.base X.outer
 frf:∀b∈X.fs,X.H₀ b=none
structure Inv (X:Cx) (pins:List (Addr×Obj)) (σ:List (Option V)) (H:Hp) (s:Shared):Prop where
 ok:X.Ok
 os:s.os=X.s₀.os
 bare:AllBare s.gens
 base:Un X.fs X.ex X.H₀ H X.s₀.heap s.heap
 loc:∃m,s.heap.Ns X.env.locals m∧∀(i:Nat) (x:Str) (v:V),X.N[i]?=some x→σ[i]?=some (some v)→Vis X.env.scope x→∃u,RelV v u∧Look X.env s.heap m x u
 cell:∀x c,X.env.cells.lookup x=some c→∃v,s.heap.IsCell c v
 free:H X.env.locals=none
 freeC:∀x c,X.env.cells.lookup x=some c→H c=none
 pin:∀p∈X.pn++pins,s.heap.get? p.1=some p.2∧H p.1=none∧p.1≠X.env.locals∧p.1∉X.fs∧∀v,p.2.data≠.cell v
 hok:HOk X.prog X.w H s.heap
 len:σ.length=X.N.length
section
variable {X:Cx}{pins:List (Addr×Obj)}{σ:List (Option V)}{H H':Hp}{s:Shared}{h':Heap}
theorem Cx.Ok.nofr (ok:X.Ok) {b:Addr}{o:Obj} (e:X.base.get? b=some o):b∉X.fs:=fun hb=>by
 have:=(ok.funs.mem hb).1
 rw[e] at this;cases this
theorem Inv.bs (I:Inv X pins σ H s):∀b o,X.base.get? b=some o→s.heap.get? b=some o∧H b=none:=fun b o e=>
 ⟨I.base.keep b o (I.ok.bs b o e).1 (I.ok.bs b o e).2 (I.ok.nofr e) (I.ok.noex b o e),I.base.free b o (I.ok.bs b o e).1 (I.ok.bs b o e).2 (I.ok.noex b o e)⟩
theorem Inv.bk (I:Inv X pins σ H s):∀b o,X.base.get? b=some o→s.heap.get? b=some o:=fun b o e=>(I.bs b o e).1
theorem Inv.mod (I:Inv X pins σ H s):Mod X.K X.mg X.base:=I.ok.mod
theorem Inv.kIn (I:Inv X pins σ H s):X.K.In s.heap:=I.ok.mod.kin.keeps I.bk
theorem Inv.lt (I:Inv X pins σ H s):X.env.locals < s.heap.objs.size:=let ⟨_,hn,_⟩:=I.loc;hn.lt
theorem Inv.sz (I:Inv X pins σ H s):X.s₀.heap.objs.size≤s.heap.objs.size:=Nat.le_trans I.ok.above (Nat.le_of_lt I.lt)
theorem Inv.nofs (I:Inv X pins σ H s) {a:Addr} (h:s.heap.objs.size≤a):a∉X.fs:=fun hb=>by
 obtain⟨_,o,ho,_⟩:=I.ok.funs.mem hb
 exact absurd (Nat.lt_of_lt_of_le (Heap.lt_size ho) (Nat.le_trans I.sz h)) (Nat.lt_irrefl _)
theorem Inv.cne (I:Inv X pins σ H s):∀x c,X.env.cells.lookup x=some c→c≠X.env.locals:=fun x c e z=>by
 obtain⟨v,o,ho,hd⟩:=I.cell x c e
 obtain⟨m,⟨o',es,ep,ho',hd',_⟩,_⟩:=I.loc
 rw[z,ho'] at ho;cases ho;rw[hd'] at hd;cases hd
theorem Inv.funs (I:Inv X pins σ H s):s.heap.FunFrames X.base X.outer:=by
 have all:∀(l:List Env),(∀ b∈frs l,b∈X.fs)→X.s₀.heap.FunFrames X.base l→s.heap.FunFrames X.base l:=by
  intro l
  induction l with
  |nil=>intro _ _;trivial
  |cons env r ih=>
   intro hs hl
   obtain⟨hk,⟨L,o,hf,hn,ho,hd⟩,hr⟩:=hl
   have hL:L∈X.fs:=hs L (by unfold frs;rw[List.filterMap_cons,hf];exact List.mem_cons_self)
   obtain⟨sl,e⟩:=I.base.slot L o ho (I.ok.frf L hL) hL fun z=>I.ok.exfs L z hL
   exact⟨hk,⟨L,_,hf,hn,e,hd⟩,ih (fun b hb=>hs b (by unfold frs;rw[List.filterMap_cons,hf];exact List.mem_cons_of_mem _ hb)) hr⟩
 exact all X.outer (fun _ hb=>hb) I.ok.funs
theorem Inv.stack (I:Inv X pins σ H s):s.heap.FunFrames X.base X.stack:=by
 rcases I.ok.stk with e|⟨e,hf⟩
 ·rw[e];exact I.funs
 ·rw[e]
  obtain⟨m,hn,_⟩:=I.loc
  refine .cons (by rw[I.ok.kind];decide) hf hn ?_ I.funs
  exact Heap.get?_none_of_le (Nat.le_trans I.ok.bsz I.ok.above)
theorem Inv.stkSub (I:Inv X pins σ H s):∀b∈frs X.stack,b∈X.env.locals::X.fs:=fun b hb=>by
 rcases I.ok.stk with e|⟨e,hf⟩
 ·rw[e] at hb;exact List.mem_cons_of_mem _ hb
 ·rw[e] at hb
  unfold frs at hb
  rw[List.filterMap_cons,hf] at hb
  exact hb
theorem Inv.stkFree (I:Inv X pins σ H s):∀b∈frs X.stack,H b=none:=fun b hb=>by
 rcases List.mem_cons.mp (I.stkSub b hb) with e|hb
 ·rw[e];exact I.free
 ·obtain⟨_,o,ho,_⟩:=I.ok.funs.mem hb
  exact I.base.free b o ho (I.ok.frf b hb) fun z=>I.ok.exfs b z hb
theorem Inv.step {g':Array GenState}{t':Nat}{d':Drawn}{ch:List Addr} (I:Inv X pins σ H s)
  (hch:∀b∈ch,(b∈X.ex∨X.s₀.heap.objs.size≤b)∧b≠X.env.locals∧(∀ x c,X.env.cells.lookup x=some c→c≠b)∧∀p∈X.pn++pins,p.1≠b)
  (keep:∀b o,b≠X.env.locals→b∉X.fs→b∉ch→s.heap.get? b=some o→H b=none→h'.get? b=some o)
  (slot:∀b o,b≠X.env.locals→b∈X.fs→b∉ch→s.heap.get? b=some o→H b=none→∃sl,h'.get? b=some { o with slots:=sl }) (free:∀b o,b∉ch→s.heap.get? b=some o→H b=none→H' b=none)
  (there:∀b o,b∉ch→s.heap.get? b=some o→∃o',h'.get? b=some o')
  (tups:∀b xs,H b=some (.tup xs)→H' b=some (.tup xs)) (frzs:∀b o u,H b=some (.frz o u)→H' b=some (.frz o u)) (tbls:∀b ps,H b=some (.tbl ps)→∃more,H' b=some (.tbl (ps++more)))
  (ns:∀m,s.heap.Ns X.env.locals m→h'.Ns X.env.locals m) (hok:HOk X.prog X.w H' h') (hg:AllBare g') :
  Inv X pins σ H' { s with heap:=h',gens:=g',drawn:=d',toks:=t' }:=by
 have neL:∀b o,X.s₀.heap.get? b=some o→b≠X.env.locals:=fun b o e=>Nat.ne_of_lt (Nat.lt_of_lt_of_le (Heap.lt_size e) I.ok.above)
 have neC:∀b o,X.s₀.heap.get? b=some o→b∉X.ex→b∉ch:=fun b o e hx hb=>by
  rcases (hch b hb).1 with z|z
  ·exact hx z
  ·exact absurd (Nat.lt_of_lt_of_le (Heap.lt_size e) z) (Nat.lt_irrefl _)
 have cellK:∀x c,X.env.cells.lookup x=some c→∀v,s.heap.IsCell c v→h'.IsCell c v:=fun x c e v ⟨o,ho,hd⟩=>by
  have nch:c∉ch:=fun z=>(hch c z).2.2.1 x c e rfl
  by_cases hc:c∈X.fs
  ·obtain⟨sl,q⟩:=slot c o (I.cne x c e) hc nch ho (I.freeC x c e)
   exact⟨_,q,hd⟩
  ·exact⟨o,keep c o (I.cne x c e) hc nch ho (I.freeC x c e),hd⟩
 refine⟨I.ok,I.os,hg,⟨fun b o e n hb hx=>?_,fun b o e n hb hx=>?_,fun b o e n hx=>?_,fun b o e hx=>?_,fun b xs e=>tups b xs (I.base.tups b xs e),fun b o xs e=>frzs b o xs (I.base.frzs b o xs e),fun b ps e=>?_⟩,?_,fun x c e=>?_,?_,fun x c e=>?_,fun p hp=>?_,hok,I.len⟩
 ·exact keep b o (neL b o e) hb (neC b o e hx) (I.base.keep b o e n hb hx) (I.base.free b o e n hx)
 ·obtain⟨sl,e1⟩:=I.base.slot b o e n hb hx
  obtain⟨sl',e2⟩:=slot b _ (neL b o e) hb (neC b o e hx) e1 (I.base.free b o e n hx)
  exact⟨sl',e2⟩
 ·obtain⟨o',e1⟩:=I.base.there b o e hx
  exact free b o' (neC b o e hx) e1 (I.base.free b o e n hx)
 ·obtain⟨o',e1⟩:=I.base.there b o e hx
  exact there b o' (neC b o e hx) e1
 ·obtain⟨m1,e1⟩:=I.base.tbls b ps e
  obtain⟨m2,e2⟩:=tbls b _ e1
  exact⟨m1++m2,by rw[e2,Array.append_assoc]⟩
 ·obtain⟨m,hn,hl⟩:=I.loc
  refine⟨m,ns m hn,fun i x v e1 e2 e3=>?_⟩
  obtain⟨u,r,l⟩:=hl i x v e1 e2 e3
  refine⟨u,r,?_⟩
  rcases l with l|⟨k,c,e,z⟩
  ·exact .inl l
  ·exact .inr ⟨k,c,e,cellK x c e _ z⟩
 ·obtain⟨v,z⟩:=I.cell x c e
  exact⟨v,cellK x c e v z⟩
 ·obtain⟨m,⟨o,_,_,ho,_⟩,_⟩:=I.loc
  exact free _ o (fun z=>(hch _ z).2.1 rfl) ho I.free
 ·obtain⟨v,o,ho,hd⟩:=I.cell x c e
  exact free c o (fun z=>(hch c z).2.2.1 x c e rfl) ho (I.freeC x c e)
 ·obtain⟨e,n,ne,nf,d⟩:=I.pin p hp
  have nch:p.1∉ch:=fun z=>(hch p.1 z).2.2.2 p hp rfl
  exact⟨keep p.1 p.2 ne nf nch e n,free p.1 p.2 nch e n,ne,nf,d⟩
theorem Inv.un {t':Nat} (I:Inv X pins σ H s) (u:Un X.fs [] H H' s.heap h') (hok:HOk X.prog X.w H' h'):Inv X pins σ H' { s with heap:=h',toks:=t' }:=by
 obtain⟨m,⟨o,es,ep,ho,r⟩,_⟩:=id I.loc
 obtain⟨sl,hL⟩:=u.any ho I.free (by simp)
 exact I.step (g':=s.gens) (d':=s.drawn) (ch:=[]) (fun _ z=>nomatch z) (fun b o _ hb _ e n=>u.keep b o e n hb (by simp)) (fun b o _ hb _ e n=>u.slot b o e n hb (by simp)) (fun b o _ e n=>u.free b o e n (by simp)) (fun b o _ e=>u.there b o e (by simp)) u.tups u.frzs u.tbls (fun m' hm=>by
  obtain⟨o',es',ep',ho',r'⟩:=hm
  rw[ho] at ho';cases ho'
  exact⟨_,es',ep',hL,r'⟩) hok I.bare
theorem Inv.call {g':Array GenState}{t':Nat}{d':Drawn}{ch:List Addr} (I:Inv X pins σ H s) (u:Un (frs X.stack) ch H H' s.heap h') (hok:HOk X.prog X.w H' h') (hg:AllBare g')
  (hch:∀b∈ch,(b∈X.ex∨X.s₀.heap.objs.size≤b)∧b≠X.env.locals∧(∀ x c,X.env.cells.lookup x=some c→c≠b)∧∀p∈X.pn++pins,p.1≠b) :
  Inv X pins σ H' { s with heap:=h',gens:=g',drawn:=d',toks:=t' }:=by
 obtain⟨m,⟨o,es,ep,ho,r⟩,_⟩:=id I.loc
 obtain⟨sl,hL⟩:=u.any ho I.free fun z=>(hch _ z).2.1 rfl
 exact I.step (ch:=ch) hch (fun b o hL hb hc e n=>u.keep b o e n (fun z=>(List.mem_cons.mp (I.stkSub b z)).elim hL hb) hc) (fun b o _ _ hc e n=>u.any e n hc) (fun b o hc e n=>u.free b o e n hc) (fun b o hc e=>u.there b o e hc) u.tups u.frzs u.tbls (fun m' hm=>by
  obtain⟨o',es',ep',ho',r'⟩:=hm
  rw[ho] at ho';cases ho'
  exact⟨_,es',ep',hL,r'⟩) hok hg
theorem Inv.turned {t':Nat}{it:Addr} (I:Inv X pins σ H s) (k:∀b o,b≠it→s.heap.get? b=some o→h'.get? b=some o) (hn:H it=none) (hL:it≠X.env.locals)
  (h1:it∈X.ex∨X.s₀.heap.objs.size≤it) (h2:∀x c,X.env.cells.lookup x=some c→c≠it) (h3:∀p∈X.pn++pins,p.1≠it):Inv X pins σ H { s with heap:=h',toks:=t' }:=by
 have nit:∀b u,H b=some u→b≠it:=fun b u e z=>by rw[z,hn] at e;cases e
 refine I.step (g':=s.gens) (d':=s.drawn) (ch:=[it]) (fun b hb=>?_) (fun b o _ _ hc e _=>k b o (fun z=>hc (by simp[z])) e) (fun b o _ _ hc e _=>⟨o.slots,k b o (fun z=>hc (by simp[z])) e⟩) (fun _ _ _ _ n=>n)
  (fun b o hc e=>⟨o,k b o (fun z=>hc (by simp[z])) e⟩) (fun _ _ e=>e) (fun _ _ _ e=>e) (fun b ps e=>⟨#[],by rw[e];simp⟩) (fun m hm=>?_) (fun b u e=>?_) I.bare
 ·have e:b=it:=by simpa using hb
  subst e
  exact⟨h1,hL,h2,h3⟩
 ·obtain⟨o,es,ep,ho,r⟩:=hm
  exact⟨o,es,ep,k _ o (Ne.symm hL) ho,r⟩
 ·refine(I.hok b u e).stay (fun c v hc q=>k c v ?_ q) (fun _ q=>q) fun _ _ q=>q
  rcases hc with z|z
  ·rw[z];exact nit b u e
  ·exact nit c _ z
theorem Inv.tok (I:Inv X pins σ H s) (t:Nat):Inv X pins σ H { s with toks:=t }:=I.un (h':=s.heap) (t':=t) Un.refl I.hok
theorem Inv.kept {t':Nat} (I:Inv X pins σ H s) (k:∀b u,s.heap.get? b=some u→h'.get? b=some u):Inv X pins σ H { s with heap:=h',toks:=t' }:=I.un (Un.kept k) (I.hok.kept k)
theorem Inv.laid {a:Addr}{o:HO}{t':Nat} (I:Inv X pins σ H s) (k:∀b u,s.heap.get? b=some u→h'.get? b=some u) (hp:s.heap.objs.size≤a) (new:ObjOk X.prog X.w (upd H a o) h' a o) :
  Inv X pins σ (upd H a o) { s with heap:=h',toks:=t' }:=I.un (Un.laid k hp (I.hok.fresh hp)) (I.hok.laid k hp new)
theorem Inv.write {x e:Addr}{o:HO}{t':Nat} (I:Inv X pins σ H s) (mu:Mut (H x)) (he:e=x∨H e=some (.own x)) (k:∀b u,b≠e→s.heap.get? b=some u→h'.get? b=some u) (heo:∃u,h'.get? e=some u)
  (new:ObjOk X.prog X.w (upd H x o) h' x o):Inv X pins σ (upd H x o) { s with heap:=h',toks:=t' }:=I.un (Un.write mu he k heo) (I.hok.write mu he k heo new)
theorem Inv.pins_of {pins':List (Addr×Obj)} (I:Inv X pins σ H s) (h:∀p∈pins',s.heap.get? p.1=some p.2∧H p.1=none∧p.1≠X.env.locals∧p.1∉X.fs∧∀v,p.2.data≠.cell v):Inv X pins' σ H s:=
 ⟨I.ok,I.os,I.bare,I.base,I.loc,I.cell,I.free,I.freeC,fun p hp=>(List.mem_append.mp hp).elim (fun z=>I.pin p (List.mem_append_left _ z)) (h p),I.hok,I.len⟩
theorem ϡo {N:List Str} (hN:N.Nodup) {i j:Nat}{x:Str} (a:N[i]?=some x) (b:N[j]?=some x):i=j:=by
 obtain⟨h1,e1⟩:=List.getElem?_eq_some_iff.mp a
 obtain⟨h2,e2⟩:=List.getElem?_eq_some_iff.mp b
 exact(List.getElem_inj hN).mp (e1.trans e2.symm)
theorem ϲh {M:Model}{A:Around}{E:Value→Shared→Prop}{i:Nat}{x:Str}{v:V}{u:Value}{Q:Unit→Shared→Prop} (I:Inv X pins σ H s) (hN:X.N.Nodup) (hi:X.N[i]?=some x) (hx:Loc X.env.scope x) (r:RelV v u)
  (h:∀s',Inv X pins (σ.set i (some v)) H s'→(∃ a,Heap.SameBut a s.heap s'.heap∧(a=X.env.locals∨X.env.cells.lookup x=some a))→Q () s') (hf:X.fn x=true∨X.env.scope.names.lookup x=some .local:=by first|exact .inl rfl|exact .inr rfl|assumption):wpAny M A (storeName X.env x u) Q E s:=by
 obtain⟨m,hn,hl⟩:=id I.loc
 have hcls:(X.env.scope.kind == .class || (X.env.scope.kind == .module && X.env.locals != X.env.globals))=false:=by rw[I.ok.kind];rfl
 have hiσ:i < σ.length:=by rw[I.len];exact(List.getElem?_eq_some_iff.mp hi).1
 have cne:=I.cne
 have tracked:∀{a:Addr}{h':Heap},(∃ o,s.heap.get? a=some o∧H a=none)→Heap.SameBut a s.heap h'→HOk X.prog X.w H h':=fun {a h'} ha hs b ob e=>by
  obtain⟨_,_,hfree⟩:=ha
  refine(I.hok b ob e).stay (fun c w' hc q=>(hs.2 c ?_).trans q) (fun _ q=>q) fun _ _ q=>q
  rintro rfl
  rcases hc with rfl|hc
  ·rw[hfree] at e;cases e
  ·rw[hfree] at hc;cases hc
 rcases hx with hk|hk
 ·refine wpAny_storeName_local hk hn (fun h' hn' hs=>?_) hcls
  obtain⟨oL,_,_,hoL,_⟩:=id hn
  refine h _ ⟨I.ok,I.os,I.bare,⟨fun b o e n hb hx=>?_,fun b o e n hb hx=>?_,I.base.free,fun b o e hx=>?_,I.base.tups,I.base.frzs,I.base.tbls⟩,⟨_,hn',fun j y v' e1 e2 e3=>?_⟩,fun y c e=>?_,I.free,I.freeC,fun p hp=>?_,tracked ⟨oL,hoL,I.free⟩ hs,by simpa using I.len⟩ ⟨_,hs,.inl rfl⟩
  ·exact(hs.2 b (Nat.ne_of_lt (Nat.lt_of_lt_of_le (Heap.lt_size e) I.ok.above))).trans (I.base.keep b o e n hb hx)
  ·obtain⟨sl,e1⟩:=I.base.slot b o e n hb hx
   exact⟨sl,(hs.2 b (Nat.ne_of_lt (Nat.lt_of_lt_of_le (Heap.lt_size e) I.ok.above))).trans e1⟩
  ·obtain⟨o',e1⟩:=I.base.there b o e hx
   exact⟨o',(hs.2 b (Nat.ne_of_lt (Nat.lt_of_lt_of_le (Heap.lt_size e) I.ok.above))).trans e1⟩
  ·by_cases hj:j=i
   ·subst hj
    rw[hi] at e1;cases e1
    rw[List.getElem?_set_self hiσ] at e2
    cases e2
    exact⟨u,r,.inl ⟨hk,by simp⟩⟩
   ·rw[List.getElem?_set_ne (Ne.symm hj)] at e2
    obtain⟨u',r',q⟩:=hl j y v' e1 e2 e3
    refine⟨u',r',?_⟩
    rcases q with⟨k,e⟩|⟨k,c,e,z⟩
    ·refine .inl ⟨k,?_⟩
     have:y≠x:=fun e=>hj (ϡo hN e1 (e▸hi))
     simp[this,e]
    ·exact .inr ⟨k,c,e,z.sameBut hs (cne y c e)⟩
  ·obtain⟨w',z⟩:=I.cell y c e
   exact⟨w',z.sameBut hs (cne y c e)⟩
  ·obtain⟨e,n,ne,nf,d⟩:=I.pin p hp
   exact⟨(hs.2 p.1 ne).trans e,n,ne,nf,d⟩
 ·have hfn:X.fn x=true:=by
   rcases hf with z|z
   ·exact z
   ·rw[z] at hk;cases hk
  obtain⟨c,hc⟩:=I.ok.has x (.inl hk)
  obtain⟨w',z⟩:=I.cell x c hc
  refine wpAny_storeName_cell I.ok.kind hk hc z (fun h' hc' hs=>?_)
  obtain⟨oc,hoc,hocd⟩:=id z
  refine h { s with heap:=h' } ⟨I.ok,I.os,I.bare,⟨fun b o e n hb hx=>?_,fun b o e n hb hx=>?_,I.base.free,fun b o e hx=>?_,I.base.tups,I.base.frzs,I.base.tbls⟩,⟨m,hn.sameBut hs (Ne.symm (cne x c hc)),fun j y v' e1 e2 e3=>?_⟩,fun y c' e=>?_,I.free,I.freeC,fun p hp=>?_,tracked ⟨oc,hoc,I.freeC x c hc⟩ hs,by simpa using I.len⟩ ⟨c,hs,.inr hc⟩
  ·exact(hs.2 b (Nat.ne_of_lt (Nat.lt_of_lt_of_le (Heap.lt_size e) (I.ok.cab x c hfn hc)))).trans (I.base.keep b o e n hb hx)
  ·obtain⟨sl,e1⟩:=I.base.slot b o e n hb hx
   exact⟨sl,(hs.2 b (Nat.ne_of_lt (Nat.lt_of_lt_of_le (Heap.lt_size e) (I.ok.cab x c hfn hc)))).trans e1⟩
  ·obtain⟨o',e1⟩:=I.base.there b o e hx
   exact⟨o',(hs.2 b (Nat.ne_of_lt (Nat.lt_of_lt_of_le (Heap.lt_size e) (I.ok.cab x c hfn hc)))).trans e1⟩
  ·by_cases hj:j=i
   ·subst hj
    rw[hi] at e1;cases e1
    rw[List.getElem?_set_self hiσ] at e2
    cases e2
    exact⟨u,r,.inr ⟨.inl hk,c,hc,hc'⟩⟩
   ·rw[List.getElem?_set_ne (Ne.symm hj)] at e2
    obtain⟨u',r',q⟩:=hl j y v' e1 e2 e3
    refine⟨u',r',?_⟩
    rcases q with q|⟨k,c',e,z'⟩
    ·exact .inl q
    ·refine .inr ⟨k,c',e,z'.sameBut hs ?_⟩
     rintro rfl
     exact hj (ϡo hN e1 (I.ok.inj _ _ _ e hc▸hi))
  ·by_cases hcc:c'=c
   ·subst hcc;exact⟨_,hc'⟩
   ·obtain⟨w2,z2⟩:=I.cell y c' e
    exact⟨w2,z2.sameBut hs hcc⟩
  ·obtain⟨e,n,ne,nf,d⟩:=I.pin p hp
   refine⟨(hs.2 p.1 ?_).trans e,n,ne,nf,d⟩
   intro q
   rw[q,hoc] at e
   have q':oc=p.2:=Option.some.inj e
   exact d w' (by rw[← q'];exact hocd)
theorem ϡs {M:Model}{A:Around}{E:Value→Shared→Prop}{i:Nat}{x:Str}{v:V}{u:Value}{Q:Unit→Shared→Prop} (I:Inv X pins σ H s) (hN:X.N.Nodup) (hi:X.N[i]?=some x) (hx:Loc X.env.scope x) (r:RelV v u)
  (h:∀s',Inv X pins (σ.set i (some v)) H s'→Q () s') (hf:X.fn x=true∨X.env.scope.names.lookup x=some .local:=by first|exact .inl rfl|exact .inr rfl|assumption):wpAny M A (storeName X.env x u) Q E s:=
 ϲh I hN hi hx r (fun s' I' _=>h s' I') hf
theorem Inv.call' {s':Shared}{ch:List Addr} (I:Inv X pins σ H s) (ho:s'.os=s.os) (u:Un (frs X.stack) ch H H' s.heap s'.heap) (hok:HOk X.prog X.w H' s'.heap) (hg:AllBare s'.gens)
  (hch:∀b∈ch,(b∈X.ex∨X.s₀.heap.objs.size≤b)∧b≠X.env.locals∧(∀ x c,X.env.cells.lookup x=some c→c≠b)∧∀p∈X.pn++pins,p.1≠b):Inv X pins σ H' s':=by
 obtain⟨h',g',d',t',o'⟩:=s'
 have e:o'=s.os:=ho
 subst e
 exact I.call (g':=g') (t':=t') (d':=d') u hok hg hch
end
abbrev XK:=Value→Option Addr→Hp→Prop
abbrev St:=List (Option V)
abbrev VK:=V→Hp→Prop
abbrev TE:=St→Hp→VK→Prop
abbrev TT:=St→Hp→(Bool→Hp→Prop)→Prop
abbrev TA:=St→Hp→(List V→Hp→Prop)→Prop
structure Ends where
 nx:St→Hp→Prop
 rt:VK
 bk:St→Hp→Prop:=fun _ _=>False
 ct:St→Hp→Prop:=fun _ _=>False
abbrev TS:=Ends→St→Hp→Prop
def EP (X:Cx) (pins:List (Addr×Obj)) (σ:St) (Q:VK) (u:Value) (s':Shared):Prop:=∃v H',Inv X pins σ H' s'∧RelV v u∧Q v H'
def TP (X:Cx) (pins:List (Addr×Obj)) (σ:St) (Q:Bool→Hp→Prop) (b:Bool) (s':Shared):Prop:=∃H',Inv X pins σ H' s'∧Q b H'
def AP (X:Cx) (pins:List (Addr×Obj)) (σ:St) (Q:List V→Hp→Prop) (us:List Value) (s':Shared):Prop:=∃vs H',Inv X pins σ H' s'∧Vals vs us∧Q vs H'
def SP (X:Cx) (pins:List (Addr×Obj)) (D:Ends) (f:Flow) (s':Shared):Prop:=
 match f with
 |.next=>∃σ' H',Inv X pins σ' H' s'∧D.nx σ' H'
 |.brk=>∃σ' H',Inv X pins σ' H' s'∧D.bk σ' H'
 |.cont=>∃σ' H',Inv X pins σ' H' s'∧D.ct σ' H'
 |.ret u=>∃v σ' H',Inv X pins σ' H' s'∧RelV v u∧D.rt v H'
def PE (X:Cx) (e:Expr) (t:TE):Prop:=
 ∀(pins:List (Addr×Obj)) (s:Shared) (σ:St) (H:Hp) (Q:VK),Inv X pins σ H s→t σ H Q→wpAny (model X.prog X.w) X.A (eval e X.env) (EP X pins σ Q) X.xe s
def PT (X:Cx) (e:Expr) (t:TT):Prop:=
 ∀(pins:List (Addr×Obj)) (s:Shared) (σ:St) (H:Hp) (Q:Bool→Hp→Prop),Inv X pins σ H s→t σ H Q→wpAny (model X.prog X.w) X.A (isTrue e X.env (eval e X.env)) (TP X pins σ Q) X.xe s
def PW (X:Cx) (e:Expr) (t:TT):Prop:=
 ∀(whole:Sem Value) (pins:List (Addr×Obj)) (s:Shared) (σ:St) (H:Hp) (Q:Bool→Hp→Prop),Inv X pins σ H s→t σ H Q→wpAny (model X.prog X.w) X.A (isTrue e X.env whole) (TP X pins σ Q) X.xe s
theorem PW.pt {X:Cx}{e:Expr}{t:TT} (h:PW X e t):PT X e t:=h _
def PA (X:Cx) (es:List Expr) (t:TA):Prop:=
 ∀(pos:Pos) (pins:List (Addr×Obj)) (s:Shared) (σ:St) (H:Hp) (Q:List V→Hp→Prop),Inv X pins σ H s→t σ H Q→wpAny (model X.prog X.w) X.A (spliced (backTo pos (starEach es X.env))) (AP X pins σ Q) X.xe s
def PS (X:Cx) (st:Stmt) (t:TS):Prop:=
 ∀(pins:List (Addr×Obj)) (s:Shared) (σ:St) (H:Hp) (D:Ends),Inv X pins σ H s→t D σ H→wpAny (model X.prog X.w) X.A (exec st X.env) (SP X pins D) X.xe s
def PSs (X:Cx) (st:List Stmt) (t:TS):Prop:=
 ∀(pins:List (Addr×Obj)) (s:Shared) (σ:St) (H:Hp) (D:Ends),Inv X pins σ H s→t D σ H→wpAny (model X.prog X.w) X.A (execs st X.env) (SP X pins D) X.xe s
theorem thn {α:Type}{t:Sem α}{Q Q':α→Shared→Prop}{M:Model}{A:Around}{E:Value→Shared→Prop}{s:Shared} (h:wpAny M A t Q E s) (hQ:∀a s,Q a s→Q' a s):wpAny M A t Q' E s:=wpAny_mono h hQ fun _ _ x=>x
end L2
namespace L2
open PySem PySem.Spec PyProof.Rows
section
variable {X:Cx}
def tVar (i:Nat):TE:=fun σ H Q=>∃v,σ[i]?=some (some v)∧Q v H
def tC (v:V):TE:=fun _ H Q=>Q v H
theorem pe_var {i:Nat}{x:Str}{pos:Pos} (hN:X.N[i]?=some x) (hv:Vis X.env.scope x) (hd:(x == ("__debug__":Str))=false:=by decide) (hcd:(x == ("__classdict__":Str))=false:=by decide):PE X (.Name x pos) (tVar i):=by
 intro pins s σ H Q I h
 obtain⟨v,e,h⟩:=h
 obtain⟨m,hn,hl⟩:=I.loc
 obtain⟨u,r,l⟩:=hl i x v hN e hv
 have fin:EP X pins σ Q u s:=⟨v,H,I,r,h⟩
 rcases l with⟨hk,hm⟩|⟨hk,c,hc,hcell⟩
 ·exact wpAny_Name (wpAny_loadName_local I.ok.kind hk hn hm fin) hd
 ·rcases hk with hk|hk
  ·exact wpAny_Name (wpAny_loadName_cell I.ok.kind hk hc hcell fin) hd
  ·exact wpAny_Name (wpAny_loadName_free I.ok.kind hk hc hcell fin hcd) hd
theorem ϖi {i j pos}:PE X (.Constant (.int i) j pos) (tC (.int i)):=fun _ _ _ H _ I h=>wpAny_Constant_int ⟨.int i,H,I.tok _,⟨_,rfl⟩,h⟩
theorem ϛD {b j pos}:PE X (.Constant (.bool b) j pos) (tC (.bl b)):=fun _ _ _ H _ I h=>Constant_bool ⟨.bl b,H,I,rfl,h⟩
theorem ϕH {j pos}:PE X (.Constant .none j pos) (tC .non):=fun _ _ _ H _ I h=>Constant_none ⟨.non,H,I,rfl,h⟩
theorem ϕY {x j pos}:PE X (.Constant (.str x) j pos) (tC (.str x)):=fun _ _ _ H _ I h=>Calls.Constant_str ⟨.str x,H,I.tok _,⟨_,rfl⟩,h⟩
def Gl (X:Cx) (x:Str):Prop:=X.env.kindOf x=some .globalImplicit
theorem ϵF {E:Value→Shared→Prop}{pins:List (Addr×Obj)}{s:Shared}{σ:St}{H:Hp}{x:Str}{u:Value}{pos:Pos}{Q:Value→Shared→Prop} (I:Inv X pins σ H s) (hg:Gl X x) (hm:X.mg x=some u) (h:Q u s)
  (hd:(x == ("__debug__":Str))=false:=by decide):wpAny (model X.prog X.w) X.A (eval (.Name x pos) X.env) Q E s:=
 Calls.Name_function_global I.ok.kind hg (Calls.loadGlobal_global (by rw[I.ok.glob];exact I.mod.glob.keeps I.bk) hm h) hd
theorem ϱK {E:Value→Shared→Prop}{pins:List (Addr×Obj)}{s:Shared}{σ:St}{H:Hp}{x:Str}{u:Value}{pos:Pos}{Q:Value→Shared→Prop} (I:Inv X pins σ H s) (hg:Gl X x) (hm:X.mg x=none) (hv:bootBuiltins x=some u) (h:Q u s)
  (hn:x≠"__name__":=by decide) (hd:(x == ("__debug__":Str))=false:=by decide):wpAny (model X.prog X.w) X.A (eval (.Name x pos) X.env) Q E s:=by
 obtain⟨mb,h1,h2⟩:=I.mod.blt
 exact Calls.Name_function_global I.ok.kind hg (Calls.loadGlobal_builtin (by rw[I.ok.glob];exact I.mod.glob.keeps I.bk) hm (by rw[I.ok.blt];exact h1.keeps I.bk) ((h2 x hn).trans hv) h) hd
theorem ϛz {x:Str}{v:V}{u:Value}{pos:Pos} (hg:Gl X x) (hm:X.mg x=some u) (r:RelV v u) (hd:(x == ("__debug__":Str))=false:=by decide):PE X (.Name x pos) (tC v):=
 fun _ _ _ H _ I h=>ϵF I hg hm ⟨v,H,I,r,h⟩ hd
variable {a b:Expr}{ta tb:TE}{pos:Pos}
def PC (X:Cx) (op:CmpOp) (a b:Expr) (t:TE):Prop:=
 ∀(pins:List (Addr×Obj)) (s:Shared) (σ:St) (H:Hp) (Q:VK),Inv X pins σ H s→t σ H Q →
  wpAny (model X.prog X.w) X.A (eval a X.env) (fun v s₁=>wpAny (model X.prog X.w) X.A (eval b X.env) (fun u s₂=>wpAny (model X.prog X.w) X.A (compareOp op v u) (EP X pins σ Q) X.xe s₂) X.xe s₁) X.xe s
def tB (t:TE):TT:=fun σ H Q=>t σ H fun x H1=>∃c,x=.bl c∧Q c H1
theorem ϵg {op:CmpOp}{t:TE} (h:PC X op a b t) (h1:behindInMarks op b=false:=by first|exact nobehind _ (by decide) (by decide)|rfl):PT X (.Compare a [op] [b] pos) (tB t):=by
 intro pins s σ H Q I hw
 refine wpAny_isTrue_Compare1 (thn (h pins s σ H _ I hw) fun v s1 h1=>thn h1 fun u s2 h2=>thn h2 fun c s3 ⟨x,H1,I1,r1,q1⟩=>?_) h1
 obtain⟨d,rfl,q⟩:=q1
 cases r1
 exact wpAny_truthy_bool ⟨H1,I1,q⟩
theorem ϡh {e:Expr}{t:TE} (h:PE X e t) (he:∀whole,isTrue e X.env whole=(do let v ← whole;standAt e.pos;holding [v] (truthy v)):=by intro _;rfl):PT X e (tB t):=by
 intro pins s σ H Q I hw
 refine isTrue_plain (thn (h pins s σ H _ I hw) fun v s1 ⟨x,H1,I1,r1,q1⟩=>?_) (he _)
 obtain⟨d,rfl,q⟩:=q1
 cases r1
 exact wpAny_truthy_bool ⟨H1,I1,q⟩
variable {tA tB':TT}{rest:List Expr}
def tAnd (t u:TT):TT:=fun σ H Q=>t σ H fun c H1=>if c=true then u σ H1 Q else Q false H1
theorem ϱa (ha:PT X a tA):PW X (.BoolOp .And [a] pos) tA:=by
 intro wh pins s σ H Q I h
 refine isTrue_and (thn (ha pins s σ H Q I h) fun c s1 e=>?_)
 cases c with
 |true=>exact isTrue_and_nil e
 |false=>exact e
theorem ϵn (ha:PT X a tA) (hb:PW X (.BoolOp .And (b::rest) pos) tB'):PW X (.BoolOp .And (a::b::rest) pos) (tAnd tA tB'):=by
 intro wh pins s σ H Q I h
 refine isTrue_and (thn (ha pins s σ H _ I h) fun c s1 ⟨H1,I1,q1⟩=>?_)
 cases c with
 |true=>exact hb wh pins s1 σ H1 Q I1 q1
 |false=>exact⟨H1,I1,q1⟩
def tOrV (ta tb:TE):TE:=fun σ H Q=>ta σ H fun x H1=>∃c,x=.bl c∧if c=true then Q (.bl true) H1 else tb σ H1 Q
theorem pe_one {op}{t:TE} (h:PE X a t):PE X (.BoolOp op [a] pos) t:=fun pins s σ H Q I hw=>BoolOp_one (h pins s σ H Q I hw)
theorem pe_or (ha:PE X a ta) (hb:PE X (.BoolOp .Or (b::rest) pos) tb):PE X (.BoolOp .Or (a::b::rest) pos) (tOrV ta tb):=by
 intro pins s σ H Q I h
 refine BoolOp_or (thn (ha pins s σ H _ I h) fun v s1 ⟨x,H1,I1,r1,q1⟩=>?_)
 obtain⟨c,rfl,q1⟩:=q1
 cases r1
 refine wpAny_truthy_bool ?_
 cases c with
 |false=>exact hb pins s1 σ H1 Q I1 q1
 |true=>exact⟨.bl true,H1,I1,rfl,q1⟩
end
end L2
namespace L2
open PySem PySem.Spec PyProof.Rows
def SqL (K:PySem.W.Frag) (H:Hp) (a:Addr) (xs:List V):Prop:=
 Rd H a (.lst xs) ∨
  ∃(o:Obj) (its:Array Value) (n:Nat),K.lookup a=some o∧o.cls=.type "list"∧o.dict=none∧o.data=.seq its n∧its.size≤sizeLine∧Vals xs its.toList
def SqT (K:PySem.W.Frag) (H:Hp) (a:Addr) (xs:List V):Prop:=
 Rd H a (.tup xs) ∨
  ∃(o:Obj) (its:Array Value) (n:Nat),K.lookup a=some o∧o.cls=.type "tuple"∧o.data=.seq its n∧its.size≤sizeLine∧Vals xs its.toList
def absV:Value→Option V
 |.none=>some .non
 |.bool b=>some (.bl b)
 |.int i _=>some (.int i)
 |.str x _=>some (.str x)
 |.bytes b _=>some (.byt b)
 |.float b _=>some (.flt b)
 |.ref a=>some (.ref a)
 |.type n=>some (.ty n)
 |_=>none
theorem RelV.abs {x:V}{u:Value} (r:RelV x u):absV u=some x:=by
 cases x with
 |non=>cases r;rfl
 |bl _=>cases r;rfl
 |int _=>obtain⟨t,rfl⟩:=r;rfl
 |str _=>obtain⟨t,rfl⟩:=r;rfl
 |byt _=>obtain⟨t,rfl⟩:=r;rfl
 |flt _=>obtain⟨t,rfl⟩:=r;rfl
 |ref _=>cases r;rfl
 |ty _=>cases r;rfl
theorem RelV.inj {x y:V}{u:Value} (r:RelV x u) (q:RelV y u):x=y:=Option.some.inj (r.abs.symm.trans q.abs)
theorem Vals.inj:∀{xs ys:List V}{us:List Value},Vals xs us→Vals ys us→xs=ys
 |_,_,_,.nil,.nil=>rfl
 |_,_,_,.cons r t,.cons r' t'=>by rw[r.inj r',Vals.inj t t']
section
variable {X:Cx}{pins:List (Addr×Obj)}{σ:St}{H:Hp}{s:Shared}{a:Addr}{xs ys:List V}
theorem SqL.of {K:PySem.W.Frag} (h:H a=some (.lst xs)):SqL K H a xs:=.inl (.inl h)
theorem SqT.of {K:PySem.W.Frag} (h:H a=some (.tup xs)):SqT K H a xs:=.inl (.inl h)
theorem Inv.list (I:Inv X pins σ H s) (h:SqL X.K H a xs):∃its:List Value,Vals xs its∧PlainL s.heap a its.toArray∧xs.length≤sizeLine:=by
 rcases h with h|⟨o,its,n,hk,hc,hd,hs,hz,r⟩
 ·obtain⟨z,its,n,r,e⟩:=h.ok I.hok
  exact⟨its,r,⟨_,n,e,rfl,rfl,rfl⟩,z⟩
 ·refine⟨its.toList,r,⟨o,n,I.kIn a o hk,hc,hd,by simpa using hs⟩,?_⟩
  have e:=r.length
  simp only[Array.length_toList] at e
  omega
theorem Inv.tuple (I:Inv X pins σ H s) (h:SqT X.K H a xs):∃its:List Value,Vals xs its∧IsTup s.heap a its.toArray∧xs.length≤sizeLine:=by
 rcases h with h|⟨o,its,n,hk,hc,hs,hz,r⟩
 ·obtain⟨z,its,r,p⟩:=h.ok I.hok
  exact⟨its,r,p,z⟩
 ·refine⟨its.toList,r,⟨o,I.kIn a o hk,hc,n,by simpa using hs⟩,?_⟩
  have e:=r.length
  simp only[Array.length_toList] at e
  omega
theorem Inv.list_inj (I:Inv X pins σ H s) (h:SqL X.K H a xs) (h':SqL X.K H a ys):xs=ys:=by
 obtain⟨its,r,⟨o,n,e,_,_,d⟩,_⟩:=I.list h
 obtain⟨its',r',⟨o',n',e',_,_,d'⟩,_⟩:=I.list h'
 rw[e] at e';cases e'
 rw[d] at d'
 injection d' with d1 _
 have:its=its':=by simpa using congrArg Array.toList d1
 subst this
 exact r.inj r'
theorem Inv.tuple_inj (I:Inv X pins σ H s) (h:SqT X.K H a xs) (h':SqT X.K H a ys):xs=ys:=by
 obtain⟨its,r,⟨o,e,_,n,d⟩,_⟩:=I.tuple h
 obtain⟨its',r',⟨o',e',_,n',d'⟩,_⟩:=I.tuple h'
 rw[e] at e';cases e'
 rw[d] at d'
 injection d' with d1 _
 have:its=its':=by simpa using congrArg Array.toList d1
 subst this
 exact r.inj r'
end
abbrev Cx.wish (X:Cx) (E:Value→Shared→Prop):Cx:={ X with xe:=E }
abbrev Cx.nox (X:Cx):Cx:=X.wish fun _ _=>False
theorem Cx.Ok.wish {X:Cx} (ok:X.Ok) (E:Value→Shared→Prop):(X.wish E).Ok:=
 ⟨ok.mod,ok.kind,ok.glob,ok.blt,ok.above,ok.inj,ok.has,ok.cab,ok.hd,ok.frames,ok.stk,ok.exf,ok.bs,ok.bsz,ok.noex,ok.exfs,ok.funs,ok.frf⟩
theorem Cx.Ok.unwish {X:Cx}{E:Value→Shared→Prop} (ok:(X.wish E).Ok):X.Ok:=
 ⟨ok.mod,ok.kind,ok.glob,ok.blt,ok.above,ok.inj,ok.has,ok.cab,ok.hd,ok.frames,ok.stk,ok.exf,ok.bs,ok.bsz,ok.noex,ok.exfs,ok.funs,ok.frf⟩
section
variable {X:Cx}{pins:List (Addr×Obj)}{σ:St}{H:Hp}{s:Shared}{E:Value→Shared→Prop}
theorem Inv.wish (I:Inv X pins σ H s) (E:Value→Shared→Prop):Inv (X.wish E) pins σ H s:=⟨I.ok.wish E,I.os,I.bare,I.base,I.loc,I.cell,I.free,I.freeC,I.pin,I.hok,I.len⟩
theorem Inv.unwish (I:Inv (X.wish E) pins σ H s):Inv X pins σ H s:=⟨I.ok.unwish,I.os,I.bare,I.base,I.loc,I.cell,I.free,I.freeC,I.pin,I.hok,I.len⟩
theorem SP.unwish {D:Ends}{f:Flow}{s':Shared} (h:SP (X.wish E) pins D f s'):SP X pins D f s':=by
 cases f with
 |next=>obtain⟨σ',H',I,q⟩:=h;exact⟨σ',H',I.unwish,q⟩
 |brk=>obtain⟨σ',H',I,q⟩:=h;exact⟨σ',H',I.unwish,q⟩
 |cont=>obtain⟨σ',H',I,q⟩:=h;exact⟨σ',H',I.unwish,q⟩
 |ret u=>obtain⟨v,σ',H',I,r,q⟩:=h;exact⟨v,σ',H',I.unwish,r,q⟩
theorem PSs.nox {st:List Stmt}{t:TS} (h:PSs X.nox st t):PSs X st t:=fun pins s σ H D I hw=>
 wpAny_mono (h pins s σ H D (I.wish _) hw) (fun _ _ q=>q.unwish) fun _ _ z=>False.elim z
end
section
variable {X:Cx}{st:Stmt}{rest:List Stmt}{t u:TS}{e:Expr}{te:TE}{pos:Pos}
def tNext:TS:=fun D σ H=>D.nx σ H
def tSeq (t u:TS):TS:=fun D σ H=>t { D with nx:=u D } σ H
theorem ϖN:PSs X [] tNext:=fun _ _ σ H _ I h=>wpAny_execs_nil ⟨σ,H,I,h⟩
theorem ϖf (h1:PS X st t) (h2:PSs X rest u):PSs X (st::rest) (tSeq t u):=by
 intro pins s σ H D I h
 refine wpAny_execs_cons (thn (h1 pins s σ H { D with nx:=u D } I h) fun f s1 q=>?_)
 cases f with
 |next=>
  obtain⟨σ',H',I',q⟩:=q
  exact h2 pins s1 σ' H' D I' q
 |ret v=>exact q
 |brk=>exact q
 |cont=>exact q
theorem ϖk (h1:PS X st t):PSs X [st] t:=by
 intro pins s σ H D I h
 refine wpAny_execs_cons (thn (h1 pins s σ H D I h) fun f s1 q=>?_)
 cases f with
 |next=>exact wpAny_execs_nil q
 |ret v=>exact q
 |brk=>exact q
 |cont=>exact q
theorem Inv.quiet {pins:List (Addr×Obj)}{σ:St}{H:Hp}{s:Shared} (I:Inv X pins σ H s):interactive X.env=false:=by simp[interactive,I.ok.kind]
def tDrop (te:TE):TS:=fun D σ H=>te σ H fun _ H1=>D.nx σ H1
theorem ϑm (he:PE X e te) (hs:swapsWith e none pos.line X.env=pure false:=by rfl):PS X (.Expr e pos) (tDrop te):=by
 intro pins s σ H D I h
 exact wpAny_Expr_any (thn (he pins s σ H _ I h) fun v s1 ⟨x,H1,I1,r1,q1⟩=>⟨σ,H1,I1,q1⟩) I.quiet hs
def tRet (te:TE):TS:=fun D σ H=>te σ H D.rt
theorem ϖF (he:PE X e te):PS X (.Return (some e) pos) (tRet te):=by
 intro pins s σ H D I h
 exact wpAny_Return_some (thn (he pins s σ H _ I h) fun v s1 ⟨x,H1,I1,r1,q1⟩=>⟨x,σ,H1,I1,r1,q1⟩)
def tIfS (c:TT) (t u:TS):TS:=fun D σ H=>c σ H fun b H1=>if b=true then t D σ H1 else u D σ H1
theorem ϑx {c:Expr}{a b:List Stmt}{tc:TT} (hc:PT X c tc) (ha:PSs X a t) (hb:PSs X b u):PS X (.If c a b pos) (tIfS tc t u):=by
 intro pins s σ H D I h
 refine wpAny_If (thn (hc pins s σ H _ I h) fun d s1 ⟨H1,I1,q1⟩=>?_)
 cases d with
 |true=>exact ha pins s1 σ H1 D I1 q1
 |false=>exact hb pins s1 σ H1 D I1 q1
end
abbrev TG:=V→St→Hp→(St→Hp→Prop)→Prop
abbrev TGs:=List V→St→Hp→(St→Hp→Prop)→Prop
def PG (X:Cx) (target:Expr) (t:TG):Prop:=
 ∀(pins:List (Addr×Obj)) (s:Shared) (σ:St) (H:Hp) (v:V) (u:Value) (Q:St→Hp→Prop),Inv X pins σ H s→RelV v u→t v σ H Q →
  wpAny (model X.prog X.w) X.A (assign target X.env u) (fun _ s'=>∃σ' H',Inv X pins σ' H' s'∧Q σ' H') X.xe s
def PGs (X:Cx) (ts:List Expr) (t:TGs):Prop:=
 ∀(pins:List (Addr×Obj)) (s:Shared) (σ:St) (H:Hp) (vs:List V) (us:List Value) (Q:St→Hp→Prop),Inv X pins σ H s→Vals vs us→t vs σ H Q →
  wpAny (model X.prog X.w) X.A (assignInOrder ((assignEach ts X.env).map (·.2)) us) (fun _ s'=>∃σ' H',Inv X pins σ' H' s'∧Q σ' H') X.xe s
abbrev TSet:=V→V→V→Hp→(Hp→Prop)→Prop
def PSet (X:Cx) (t:TSet):Prop:=
 ∀(pins:List (Addr×Obj)) (s:Shared) (σ:St) (H:Hp) (o i v:V) (ov iv u:Value) (Q:Hp→Prop),Inv X pins σ H s→RelV o ov→RelV i iv→RelV v u→t o i v H Q →
  wpAny (model X.prog X.w) X.A (setItem ov iv u) (fun _ s'=>∃H',Inv X pins σ H' s'∧Q H') X.xe s
section
variable {X:Cx}{pos:Pos}
def ϱp (i:Nat):TG:=fun v σ H Q=>Q (σ.set i (some v)) H
theorem ϖr {i:Nat}{x:Str} (hN:X.N.Nodup) (hi:X.N[i]?=some x) (hx:Loc X.env.scope x) (hf:X.fn x=true∨X.env.scope.names.lookup x=some .local:=by first|exact .inl rfl|exact .inr rfl|assumption):PG X (.Name x pos) (ϱp i):=by
 intro pins s σ H v u Q I r h
 exact wpAny_assign_Name (ϡs I hN hi hx r (fun s' I'=>⟨_,H,I',h⟩) hf)
def gNil:TGs:=fun vs σ H Q=>vs=[]∧Q σ H
def gCons (t:TG) (u:TGs):TGs:=fun vs σ H Q=>∃v r,vs=v::r∧t v σ H fun σ' H'=>u r σ' H' Q
theorem ϖ6:PGs X [] gNil:=by
 intro pins s σ H vs us Q I r h
 obtain⟨e,h⟩:=h
 subst e
 cases r
 exact assignInOrder_nil ⟨σ,H,I,h⟩
theorem ϖs {e:Expr}{es:List Expr}{t:TG}{u:TGs} (h1:PG X e t) (h2:PGs X es u)
  (hs:(assignEach (e::es) X.env).map (·.2)=assign e X.env::(assignEach es X.env).map (·.2):=by rfl):PGs X (e::es) (gCons t u):=by
 intro pins s σ H vs us Q I r h
 obtain⟨v,vr,e1,h⟩:=h
 subst e1
 cases r with
 |cons r rr=>
  rw[hs]
  refine assignInOrder_cons (thn (h1 pins s σ H _ _ _ I r h) fun _ s1 ⟨σ1,H1,I1,q1⟩=>?_)
  exact h2 pins s1 σ1 H1 _ _ Q I1 rr q1
def gTup (K:PySem.W.Frag) (n:Nat) (t:TGs):TG:=fun v σ H Q=>∃a xs,v=.ref a∧SqT K H a xs∧xs.length=n∧t xs σ H Q
theorem ϑr {es:List Expr}{k:Nat}{t:TGs}{n:Nat} (hc:X.calm=true) (h:PGs X es t)
  (hn:(assignEach es X.env).length=n:=by rfl) (hst:(assignEach es X.env).findIdx? (·.1)=none:=by rfl):PG X (.Tuple es k pos) (gTup X.K n t):=by
 intro pins s σ H v u Q I r hw
 obtain⟨a,xs,e1,hq,hl,hw⟩:=hw
 subst e1
 cases r
 obtain⟨its,rv,ht,hz⟩:=I.tuple hq
 refine assign_Tuple_tuple (I.ok.hd hc) ht (by simp[hn,← hl,rv.length]) hst fun h' hx=>?_
 have I1:Inv X pins σ H { s with heap:=h' }:=I.kept (t':=s.toks) fun b o e=>hx b o (Nat.ne_of_lt (Heap.lt_size e)) e
 exact h pins _ σ H xs _ Q I1 (by simpa using rv) hw
def gSub (to ti:TE) (t:TSet):TG:=fun v σ H Q=>to σ H fun o H1=>ti σ H1 fun i H2=>t o i v H2 fun H3=>Q σ H3
theorem pg_sub {o i:Expr}{to ti:TE}{t:TSet} (ho:PE X o to) (hi:PE X i ti) (hs:PSet X t)
  (ha:∀v,assign (.Subscript o i pos) X.env v=(do
   let ov ← holding [v] (eval o X.env)
   let iv ← holding [v,ov] (eval i X.env)
   standAt pos
   holding [v,ov,iv] (setItem ov iv v)
   release [v,ov,iv] []):=by intro _;rfl):PG X (.Subscript o i pos) (gSub to ti t):=by
 intro pins s σ H v u Q I r h
 rw[ha]
 refine wpAny_bind (wpAny_holding (thn (ho pins s σ H _ I h) fun ov s1 ⟨x,H1,I1,r1,q1⟩=>?_))
 refine wpAny_bind (wpAny_holding (thn (hi pins s1 σ H1 _ I1 q1) fun iv s2 ⟨y,H2,I2,r2,q2⟩=>?_))
 refine wpAny_bind (wpAny_standAt (wpAny_bind (wpAny_holding (thn (hs pins s2 σ H2 x y v ov iv u _ I2 r1 r2 r q2) fun _ s3 ⟨H3,I3,q3⟩=>?_))))
 exact wpAny_release ⟨σ,H3,I3,q3⟩
def tAsg (te:TE) (g:TG):TS:=fun D σ H=>te σ H fun x H1=>g x σ H1 D.nx
theorem ϝU {tg e:Expr}{te:TE}{g:TG} (he:PE X e te) (hg:PG X tg g) (hs:swapsWithSole [tg] e pos.line X.env=pure false:=by rfl) (hw:swappedStores [tg] e X.env=pure none:=by rfl)
  (h1:(assignEach [tg] X.env).map (·.2)=[assign tg X.env]:=by rfl):PS X (.Assign [tg] e pos) (tAsg te g):=by
 intro pins s σ H D I h
 refine wpAny_Assign_stores (thn (he pins s σ H _ I h) fun v s1 ⟨x,H1,I1,r1,q1⟩=>?_) hs hw
 rw[h1]
 exact thn (hg pins s1 σ H1 x v _ I1 r1 q1) fun _ s2 q=>q
theorem ϖp {i:Nat}{x:Str}{e:Expr}{te:TE}{pos':Pos} (hN:X.N.Nodup) (hi:X.N[i]?=some x) (hx:Loc X.env.scope x) (he:PE X e te) (hs:swapsWith e (some (.Name x pos')) pos.line X.env=pure false:=by rfl) (hf:X.fn x=true∨X.env.scope.names.lookup x=some .local:=by first|exact .inl rfl|exact .inr rfl|assumption) :
  PS X (.Assign [.Name x pos'] e pos) (tAsg te (ϱp i)):=by
 intro pins s σ H D I h
 refine wpAny_Assign_Name (thn (he pins s σ H _ I h) fun v s1 ⟨y,H1,I1,r1,q1⟩=>?_) hs
 exact ϡs I1 hN hi hx r1 (fun s2 I2=>⟨_,H1,I2,q1⟩) hf
end
section
variable {X:Cx}{pos:Pos}
def tWhile (c:TT) (tb:TS):TS:=fun D σ H=>∃W:Nat→St→Hp→Prop,(∃ m,W m σ H)∧∀m σ H,W m σ H →
 c σ H fun b H1=>if b=true then ∃N:St→Hp→Prop,(∀ σ' H',N σ' H'→∃m',m' < m∧W m' σ' H')∧tb { D with nx:=N,ct:=N,bk:=D.nx } σ H1 else D.nx σ H1
theorem ϡc {c:Expr}{body:List Stmt}{tc:TT}{tb:TS} (hp:PassesOwn (model X.prog X.w) X.A X.env X.xe) (hc:PT X c tc) (hb:PSs X body tb):PS X (.While c body [] pos) (tWhile tc tb):=by
 intro pins s σ H D I h
 obtain⟨W,⟨m0,w0⟩,turn⟩:=h
 refine wpAny_While (codeAny_whileLoop (fun n s'=>∃σ' H',Inv X pins σ' H' s'∧W n σ' H') ?_ m0 ⟨σ,H,I,w0⟩)
 rintro n s1 ⟨σ1,H1,I1,w1⟩
 refine wpAny_passesOwn hp (thn (hc pins s1 σ1 H1 _ I1 (turn n σ1 H1 w1)) fun b s2 ⟨H2,I2,q2⟩=>?_)
 cases b with
 |true=>
  obtain⟨N,hN,q2⟩:=q2
  rw[if_pos rfl]
  refine wpAny_passesOwn hp (thn (hb pins s2 σ1 H2 _ I2 q2) fun f s3 q3=>?_)
  cases f with
  |next=>
   obtain⟨σ3,H3,I3,n3⟩:=q3
   obtain⟨m',hm,w3⟩:=hN σ3 H3 n3
   exact⟨m',hm,σ3,H3,I3,w3⟩
  |cont=>
   obtain⟨σ3,H3,I3,n3⟩:=q3
   obtain⟨m',hm,w3⟩:=hN σ3 H3 n3
   exact⟨m',hm,σ3,H3,I3,w3⟩
  |brk=>exact q3
  |ret v=>exact q3
 |false=>
  rw[if_neg Bool.false_ne_true]
  exact wpAny_execs_nil ⟨σ1,H2,I2,q2⟩
end
structure It where
 go:Nat→Hp→Prop
 yld:Nat→Hp→V→Hp→Prop
 stop:Nat→Hp→Prop
def FpOk (X:Cx) (pins:List (Addr×Obj)) (H:Hp) (b:Addr):Prop:=
 H b=none∧b≠X.env.locals∧b∉X.fs∧(b∈X.ex∨X.s₀.heap.objs.size≤b)∧(∀ x c,X.env.cells.lookup x=some c→c≠b)∧∀p∈X.pn++pins,p.1≠b
theorem Inv.fpOk {X:Cx}{pins:List (Addr×Obj)}{σ:St}{H H':Hp}{s:Shared}{b:Addr} (I:Inv X pins σ H s) (hb:s.heap.objs.size≤b) (hn:H' b=none):FpOk X pins H' b:=by
 refine⟨hn,Nat.ne_of_gt (Nat.lt_of_lt_of_le I.lt hb),I.nofs hb,.inr (Nat.le_trans I.sz hb),fun x c e z=>?_,fun p hp z=>?_⟩
 ·obtain⟨v,q⟩:=I.cell x c e
  exact absurd (Nat.lt_of_lt_of_le q.lt (by rw[z];exact hb)) (Nat.lt_irrefl _)
 ·exact absurd (Nat.lt_of_lt_of_le (Heap.lt_size (I.pin p hp).1) (by rw[z];exact hb)) (Nat.lt_irrefl _)
structure Turn (P:Program) (w:World) (K:PySem.W.Frag) (tg:Expr) (J:It) (fp:List Addr) (it:Addr) (tn:Nat→Heap→Prop):Prop where
 mem:it∈fp
 obj:∀i h,tn i h→∀b∈fp,∃o,h.get? b=some o∧∀v,o.data≠.cell v
 keep:∀i h h',tn i h→(∀ b∈fp,∀o,h.get? b=some o→h'.get? b=some o)→tn i h'
 item:∀(X:Cx),X.prog=P→X.w=w→X.K=K→X.calm=true→∀(i:Nat) (pins:List (Addr×Obj)) (s:Shared) (σ:St) (H:Hp) (E:Value→Shared→Prop),Inv X pins σ H s→(∀ b∈fp,FpOk X pins H b)→tn i s.heap→J.go i H →
  wpAny (model P w) X.A (pyNext (.ref it)) (fun r s1=>∃u,r=some u ∧
   wpAny (model P w) X.A (letOwnedTupleGo tg (.ref it) u) (fun _ s2=>∃x H',Inv X pins σ H' s2∧RelV x u∧J.yld i H x H'∧tn (i+1) s2.heap∧∀b∈fp,H' b=none) E s1) E s
 done:∀(X:Cx),X.prog=P→X.w=w→X.K=K→X.calm=true→∀(i:Nat) (pins:List (Addr×Obj)) (s:Shared) (σ:St) (H:Hp) (E:Value→Shared→Prop),Inv X pins σ H s→(∀ b∈fp,FpOk X pins H b)→tn i s.heap→J.stop i H →
  wpAny (model P w) X.A (pyNext (.ref it)) (fun r s1=>r=none∧Inv X pins σ H s1) E s
 self:∀(A:Around) (i:Nat) (s:Shared) (Q:Value→Shared→Prop) (E:Value→Shared→Prop),tn i s.heap→Q (.ref it) s→wpAny (model P w) A (pyIter (.ref it)) Q E s
abbrev TI:=St→Hp→(It→Hp→Prop)→Prop
def PIE (X:Cx) (pins:List (Addr×Obj)) (σ:St) (tg:Expr) (R:It→Hp→Prop) (itv:Value) (s2:Shared):Prop:=
 ∃(it:Addr) (fp:List Addr) (tn:Nat→Heap→Prop) (J:It) (H':Hp),itv=.ref it∧Inv X pins σ H' s2∧Turn X.prog X.w X.K tg J fp it tn∧tn 0 s2.heap∧(∀ b∈fp,FpOk X pins H' b)∧R J H'
def PI (X:Cx) (tg iter:Expr) (wi:TI):Prop:=
 ∀(pins:List (Addr×Obj)) (s:Shared) (σ:St) (H:Hp) (R:It→Hp→Prop),Inv X pins σ H s→wi σ H R →
  wpAny (model X.prog X.w) X.A (eval iter X.env) (fun v s1=>wpAny (model X.prog X.w) X.A (pyIter v) (PIE X pins σ tg R) X.xe s1) X.xe s
theorem ϛZ {M:Model}{A:Around}{E:Value→Shared→Prop}{s:Shared}{tg:Expr}{it:Addr}{u:Value}{o:Obj}{n:String}{vs:Array Value}{Q:Unit→Shared→Prop} (ho:s.heap.get? it=some o) (hc:o.cls=.type n) (hd:o.data=.fields vs)
  (hn:["enumerate","zip","dict_itemiterator","dict_reverseitemiterator","odict_iterator","itertools.zip_longest","itertools.pairwise"].contains n=false) (hQ:Q () s):wpAny M A (letOwnedTupleGo tg (.ref it) u) Q E s:=by
 unfold letOwnedTupleGo
 cases tg<;>first
  |exact wpAny_pure hQ
  |(cases u<;>first
    |exact wpAny_pure hQ
    |(refine wpAny_bind (wpAny_load ho ?_)
      rw[hc,hd]
      show wpAny M A (if (["enumerate","zip","dict_itemiterator","dict_reverseitemiterator","odict_iterator","itertools.zip_longest","itertools.pairwise"].contains n && vs[0]? == some (rawInt _))=true then _ else _) Q E s
      rw[if_neg (by intro h;rw[hn,Bool.false_and] at h;cases h)]
      exact wpAny_pure hQ))
def Itl (K:PySem.W.Frag) (a:Addr):It:=
 ⟨fun i H=>∃xs x,SqL K H a xs∧xs[i]?=some x,fun i H x H'=>H'=H∧∀xs,SqL K H a xs→xs[i]?=some x,fun i H=>∃xs,SqL K H a xs∧xs.length≤i⟩
def Itt (K:PySem.W.Frag) (a:Addr):It:=
 ⟨fun i H=>∃xs x,SqT K H a xs∧xs[i]?=some x,fun i H x H'=>H'=H∧∀xs,SqT K H a xs→xs[i]?=some x,fun i H=>∃xs,SqT K H a xs∧xs.length≤i⟩
def Itr (lo:Int) (n:Nat):It:=⟨fun i _=>i < n,fun i H x H'=>H'=H∧x=.int (lo+i),fun i _=>n≤i⟩
theorem ϟ0 {P:Program}{w:World}{K:PySem.W.Frag}{tg:Expr} (a it:Addr):Turn P w K tg (Itl K a) [it] it (fun i h=>h.IsListIter it a i) where
 mem:=by simp
 obj:=fun i h st b hb=>by
  have e:b=it:=by simpa using hb
  subst e
  obtain⟨o,e,c,d⟩:=st
  exact⟨o,e,fun v z=>by rw[d] at z;cases z⟩
 keep:=fun i h h' st k=>st.at fun o e=>k it (by simp) o e
 item:=by
  intro X hP hw hK hc i pins s σ H E I hf st hg
  subst hP hw hK
  obtain⟨xs,x,hq,hx⟩:=hg
  obtain⟨its,rv,p,hz⟩:=I.list hq
  obtain⟨u,hu,ru⟩:=rv.get hx
  obtain⟨f0,f1,f2,f3,f4,f5⟩:=hf it (by simp)
  refine wpAny_pyNext_list_item st p.isList (x:=u) (by simpa using hu) fun h' st' sb=>?_
  have I1:Inv X pins σ H { s with heap:=h' }:=I.turned (t':=s.toks) (fun b o hb e=>(sb.2 b hb).trans e) f0 f1 f3 f4 f5
  obtain⟨o,e,c,d⟩:=id st'
  exact⟨u,rfl,ϛZ (s:={ s with heap:=h' }) e c d (by decide) ⟨x,H,I1,ru,⟨rfl,fun ys hy=>by rw[I.list_inj hy hq];exact hx⟩,st',fun b hb=>(hf b hb).1⟩⟩
 done:=by
  intro X hP hw hK hc i pins s σ H E I hf st hg
  subst hP hw hK
  obtain⟨xs,hq,hx⟩:=hg
  obtain⟨its,rv,p,hz⟩:=I.list hq
  obtain⟨f0,f1,f2,f3,f4,f5⟩:=hf it (by simp)
  have hl:=rv.length
  exact wpAny_pyNext_list_end (I.ok.hd hc) st p.isList (by simp;omega) fun h' eb=>⟨rfl,I.turned (t':=s.toks) (fun b o hb e=>eb b o hb e) f0 f1 f3 f4 f5⟩
 self:=fun _ _ _ _ _ st h=>wpAny_pyIter_listiter st h
theorem ϡD {P:Program}{w:World}{K:PySem.W.Frag}{tg:Expr} (it:Addr) (lo:Int) (n:Nat):Turn P w K tg (Itr lo n) [it] it (fun i h=>IsRangeIter h it (lo+(i:Nat)*1) ((n:Int)-(i:Nat)) 1) where
 mem:=by simp
 obj:=fun i h st b hb=>by
  have e:b=it:=by simpa using hb
  subst e
  exact⟨_,st,fun v z=>by
   have z':Data.fields _=Data.cell v:=z
   cases z'⟩
 keep:=fun i h h' st k=>k it (by simp) _ st
 item:=by
  intro X hP hw hK hc i pins s σ H E I hf st hg
  subst hP hw hK
  obtain⟨f0,f1,f2,f3,f4,f5⟩:=hf it (by simp)
  have W:=Walks.range (prog:=X.prog) (w:=X.w) (I.ok.hd hc) it lo 1 n
  refine W.item i s _ _ hg st fun v h' tk hv st' kk=>?_
  obtain⟨t,rfl⟩:=hv
  have I1:Inv X pins σ H { s with heap:=h',toks:=tk }:=I.turned (fun b o hb e=>kk b o (by simpa using hb) e) f0 f1 f3 f4 f5
  refine⟨_,rfl,ϛZ (s:={ s with heap:=h',toks:=tk }) (n:="range_iterator") st' rfl rfl (by decide) ⟨.int (lo+i),H,I1,⟨t,?_⟩,⟨rfl,rfl⟩,st',fun b hb=>(hf b hb).1⟩⟩
  rw[Int.mul_one]
 done:=by
  intro X hP hw hK hc i pins s σ H E I hf st hg
  subst hP hw hK
  obtain⟨f0,f1,f2,f3,f4,f5⟩:=hf it (by simp)
  exact wpAny_pyNext_range_end (I.ok.hd hc) st (by have:n≤i:=hg;omega) fun h' eb=>⟨rfl,I.turned (t':=s.toks) (fun b o hb e=>eb b o hb e) f0 f1 f3 f4 f5⟩
 self:=fun _ _ _ _ _ st h=>wpAny_pyIter_rangeiter st h
end L2
namespace L2
open PySem PySem.Spec PyProof.Rows
section
variable {X:Cx}{tg:Expr}
def ϑ3 (K:PySem.W.Frag) (tl:TE):TI:=fun σ H R=>tl σ H fun x H1=>∃a,x=.ref a∧(∃ xs,SqL K H1 a xs)∧R (Itl K a) H1
theorem ϖZ {l:Expr}{tl:TE} (hl:PE X l tl):PI X tg l (ϑ3 X.K tl):=by
 intro pins s σ H R I h
 refine thn (hl pins s σ H _ I h) fun v s1 ⟨x,H1,I1,r1,q1⟩=>?_
 obtain⟨a,e,⟨xs,hq⟩,q⟩:=q1
 subst e
 cases r1
 obtain⟨its,rv,p,hz⟩:=I1.list hq
 refine wpAny_pyIter_list p.isList ?_
 refine⟨s1.heap.objs.size,[s1.heap.objs.size],_,_,H1,rfl,I1.kept (t':=s1.toks) fun b o e=>Heap.get?_push_of_some _ e,ϟ0 a _,⟨_,Heap.get?_push_size _ rfl,rfl,rfl⟩,fun b hb=>?_,q⟩
 have e:b=s1.heap.objs.size:=by simpa using hb
 subst e
 exact I1.fpOk (Nat.le_refl _) (I1.hok.fresh (Nat.le_refl _))
theorem ϡa {pins:List (Addr×Obj)}{σ:St}{H:Hp}{s:Shared}{R:It→Hp→Prop}{E:Value→Shared→Prop}{lo hi:Int}{t u v:Tok}{tk:Nat} (I:Inv X pins σ H s) (h1:-(2 ^ 62)≤lo) (h2:lo < 2 ^ 62) (h3:-(2 ^ 62)≤hi) (h4:hi < 2 ^ 62)
  (q:R (Itr lo (hi-lo).toNat) H):wpAny (model X.prog X.w) X.A (pyIter (.ref s.heap.objs.size)) (PIE X pins σ tg R) E { s with heap:=s.heap.push { cls:=.type "range",data:=.fields #[.int lo t,.int hi u,.int 1 v] },toks:=tk }:=by
 refine wpAny_pyIter_range (IsRange.new ..) (small_one h1 h2 h3 h4) ?_
 have I1:Inv X pins σ H { s with heap:=s.heap.push { cls:=.type "range",data:=.fields #[.int lo t,.int hi u,.int 1 v] },toks:=tk }:=I.kept fun b o e=>Heap.get?_push_of_some _ e
 refine⟨(s.heap.push { cls:=.type "range",data:=.fields #[.int lo t,.int hi u,.int 1 v] }).objs.size,[(s.heap.push { cls:=.type "range",data:=.fields #[.int lo t,.int hi u,.int 1 v] }).objs.size],_,_,H,rfl,
  I1.kept (t':=tk) fun b o e=>Heap.get?_push_of_some _ e,ϡD _ lo (hi-lo).toNat,?_,fun b hb=>?_,q⟩
 ·have e1:lo+((0:Nat):Int)*1=lo:=by simp
  have e2:(((hi-lo).toNat:Nat):Int)-((0:Nat):Int)=Builtin.Range.rangeSize lo hi 1:=by rw[rangeSize_one];split<;>omega
  show IsRangeIter _ _ (lo+((0:Nat):Int)*1) ((((hi-lo).toNat:Nat):Int)-((0:Nat):Int)) 1
  rw[e1,e2]
  exact Heap.get?_push_size _ rfl
 ·have e:b=(s.heap.push { cls:=.type "range",data:=.fields #[.int lo t,.int hi u,.int 1 v] }).objs.size:=by simpa using hb
  subst e
  exact I1.fpOk (Nat.le_refl _) (I1.hok.fresh (Nat.le_refl _))
def iRng1 (ta:TA):TI:=fun σ H R=>ta σ H fun vs H1=>∃j:Int,vs=[.int j]∧-(2 ^ 62)≤j∧j < 2 ^ 62∧R (Itr 0 j.toNat) H1
def iRng2 (ta:TA):TI:=fun σ H R=>ta σ H fun vs H1=>∃i j:Int,vs=[.int i,.int j]∧(-(2 ^ 62)≤i∧i < 2 ^ 62∧-(2 ^ 62)≤j∧j < 2 ^ 62)∧R (Itr i (j-i).toNat) H1
theorem ϕX {a:Expr}{ta:TA}{p pos:Pos} (hg:Gl X "range") (hm:X.mg "range"=none) (ha:PA X [a] ta) (hs:starEach [a] X.env=[(false,eval a X.env)]:=by rfl):PI X tg (.Call (.Name "range" p) [a] [] pos) (iRng1 ta):=by
 intro pins s σ H R I h
 refine Call_ (ϱK I hg hm boot_range (PyProof.Rows.callWith_type1 (thn (ha pos pins s σ H _ I h) fun us s1 ⟨vs,H1,I1,r1,q1⟩=>?_) hs rfl))
 obtain⟨j,e,q1,q2,q⟩:=q1
 subst e
 cases r1 with
 |cons r rr=>
  cases rr
  obtain⟨t,rfl⟩:=r
  exact call_range_1 (ϡa I1 (by omega) (by omega) q1 q2 (by simpa using q))
theorem ϵY {a b:Expr}{ta:TA}{p pos:Pos} (hg:Gl X "range") (hm:X.mg "range"=none) (ha:PA X [a,b] ta) (hs:starEach [a,b] X.env=[(false,eval a X.env),(false,eval b X.env)]:=by rfl) (hs2:starEach [b] X.env=[(false,eval b X.env)]:=by rfl) :
  PI X tg (.Call (.Name "range" p) [a,b] [] pos) (iRng2 ta):=by
 intro pins s σ H R I h
 refine Call_ (ϱK I hg hm boot_range (PyProof.Rows.callWith_type1 (thn (ha pos pins s σ H _ I h) fun us s1 ⟨vs,H1,I1,r1,q1⟩=>?_) (by rw[hs,hs2]) (by rw[hs2];rfl)))
 obtain⟨i,j,e,⟨q1,q2,q3,q4⟩,q⟩:=q1
 subst e
 cases r1 with
 |cons r rr=>
  cases rr with
  |cons r' rr=>
   cases rr
   obtain⟨t,rfl⟩:=r
   obtain⟨t',rfl⟩:=r'
   exact call_range_2 (ϡa I1 q1 q2 q3 q4 q)
def tFor (wi:TI) (g:TG) (tb:TS):TS:=fun D σ H=>wi σ H fun J H1=>∃W:Nat→Nat→St→Hp→Prop,(∃ m,W 0 m σ H1)∧∀i m σ H,W i m σ H →
 (J.stop i H∧D.nx σ H)∨(J.go i H∧∃N:St→Hp→Prop,(∀ σ' H',N σ' H'→∃m',m' < m∧W (i+1) m' σ' H')∧∀x H',J.yld i H x H'→g x σ H' fun σ2 H2=>tb { D with nx:=N,ct:=N,bk:=D.nx } σ2 H2)
def ϵZ (fp:List Addr) (h:Heap):List (Addr×Obj):=fp.filterMap fun b=>(h.get? b).map fun o=>(b,o)
theorem ϰs {fp:List Addr}{h:Heap}{b:Addr}{o:Obj} (hb:b∈fp) (e:h.get? b=some o):(b,o)∈ϵZ fp h:=List.mem_filterMap.mpr ⟨b,hb,by rw[e];rfl⟩
theorem ϡV {fp:List Addr}{h:Heap}{p:Addr×Obj} (hp:p∈ϵZ fp h):p.1∈fp∧h.get? p.1=some p.2:=by
 obtain⟨b,hb,e⟩:=List.mem_filterMap.mp hp
 cases q:h.get? b with
 |none=>rw[q] at e;cases e
 |some o=>
  rw[q] at e
  have e':(b,o)=p:=Option.some.inj e
  subst e'
  exact⟨hb,q⟩
theorem Inv.pinned {pins:List (Addr×Obj)}{σ:St}{H:Hp}{s:Shared}{fp:List Addr} (I:Inv X pins σ H s) (hf:∀b∈fp,FpOk X pins H b) (ho:∀b∈fp,∃o,s.heap.get? b=some o∧∀v,o.data≠.cell v):Inv X (pins++ϵZ fp s.heap) σ H s:=
 I.pins_of fun p hp=>(List.mem_append.mp hp).elim (fun z=>I.pin p (List.mem_append_right _ z)) fun z=>by
  obtain⟨hb,e⟩:=ϡV z
  obtain⟨f0,f1,f2,_⟩:=hf p.1 hb
  obtain⟨o,e',d⟩:=ho p.1 hb
  rw[e] at e';cases e'
  exact⟨e,f0,f1,f2,d⟩
theorem Inv.unpinned {pins pl:List (Addr×Obj)}{σ:St}{H:Hp}{s:Shared} (I:Inv X (pins++pl) σ H s):Inv X pins σ H s:=I.pins_of fun p hp=>I.pin p (List.mem_append_right _ (List.mem_append_left _ hp))
theorem ϑd {iter:Expr}{body:List Stmt}{wi:TI}{g:TG}{tb:TS}{pos:Pos} (hp:PassesOwn (model X.prog X.w) X.A X.env X.xe) (hc:X.calm=true) (hi:PI X tg iter wi) (hg:PG X tg g) (hb:PSs X body tb)
  (hs:∀x,foldedSetIterable iter X.env x=pure x:=by intro _;rfl):PS X (.For tg iter body [] pos) (tFor wi g tb):=by
 intro pins s σ H D I h
 refine wpAny_For (thn (hi pins s σ H _ I h) fun v s1 h1=>thn h1 fun itv s2 h2=>?_) hs
 obtain⟨it,fp,tn,J,H2,e,I2,T,st2,f2,W,⟨m0,w0⟩,turn⟩:=h2
 subst e
 have stat:∀{H':Hp},(∀ b∈fp,H' b=none)→∀b∈fp,FpOk X pins H' b:=fun hn b hb=>⟨hn b hb,(f2 b hb).2⟩
 refine codeAny_forLoop_any (fun n s'=>∃i σ' H',Inv X pins σ' H' s'∧tn i s'.heap∧(∀ b∈fp,H' b=none)∧W i n σ' H') ?_ m0 ⟨0,σ,H2,I2,st2,fun b hb=>(f2 b hb).1,w0⟩
 rintro n s3 ⟨i,σ3,H3,I3,st3,fr3,w3⟩
 rcases turn i n σ3 H3 w3 with⟨stop,qn⟩|⟨go,N,hN,step⟩
 ·refine wpAny_passesOwn hp (thn (T.done X rfl rfl rfl hc i pins s3 σ3 H3 X.xe I3 (stat fr3) st3 stop) fun r s4 ⟨hr,I4⟩=>?_)
  subst hr
  exact wpAny_execs_nil ⟨σ3,H3,I4,qn⟩
 ·refine wpAny_passesOwn hp (thn (T.item X rfl rfl rfl hc i pins s3 σ3 H3 X.xe I3 (stat fr3) st3 go) fun r s4 ⟨u,hr,h4⟩=>?_)
  subst hr
  refine wpAny_passesOwn hp (thn h4 fun _ s5 ⟨x,H5,I5,r5,y5,st5,fr5⟩=>?_)
  have I5':=I5.pinned (stat fr5) (T.obj _ _ st5)
  refine wpAny_passesOwn hp (thn (hg _ s5 σ3 H5 x u _ I5' r5 (step x H5 y5)) fun _ s6 ⟨σ6,H6,I6,q6⟩=>?_)
  refine wpAny_passesOwn hp (thn (hb _ s6 σ6 H6 _ I6 q6) fun f s7 q7=>?_)
  have again:∀{σ7:St}{H7:Hp},Inv X (pins++ϵZ fp s5.heap) σ7 H7 s7→N σ7 H7→∃m,m < n∧∃i σ' H',Inv X pins σ' H' s7∧tn i s7.heap∧(∀ b∈fp,H' b=none)∧W i m σ' H':=fun {σ7 H7} I7 n7=>by
   obtain⟨m',hm,w7⟩:=hN σ7 H7 n7
   refine⟨m',hm,i+1,σ7,H7,I7.unpinned,T.keep _ _ _ st5 fun b hb o e=>(I7.pin (b,o) (List.mem_append_right _ (List.mem_append_right _ (ϰs hb e)))).1,fun b hb=>?_,w7⟩
   obtain⟨o,e,d⟩:=T.obj _ _ st5 b hb
   exact(I7.pin (b,o) (List.mem_append_right _ (List.mem_append_right _ (ϰs hb e)))).2.1
  cases f with
  |next=>obtain⟨σ7,H7,I7,n7⟩:=q7;exact again I7 n7
  |cont=>obtain⟨σ7,H7,I7,n7⟩:=q7;exact again I7 n7
  |brk=>obtain⟨σ7,H7,I7,q7⟩:=q7;exact⟨σ7,H7,I7.unpinned,q7⟩
  |ret v=>obtain⟨x7,σ7,H7,I7,r7,q7⟩:=q7;exact⟨x7,σ7,H7,I7.unpinned,r7,q7⟩
end
theorem ϝs {K:PySem.W.Frag}{a:Addr}{xs:List V}{g:TG}{tb:TS}{D:Ends}{σ:St}{H:Hp} (Pv:Nat→St→Hp→Prop) (h0:Pv 0 σ H) (hl:∀i σ H,i≤xs.length→Pv i σ H→SqL K H a xs)
  (hs:∀i x σ H,xs[i]?=some x→Pv i σ H→g x σ H fun σ2 H2=>tb { D with nx:=Pv (i+1),ct:=Pv (i+1),bk:=D.nx } σ2 H2) (hd:∀σ H,Pv xs.length σ H→D.nx σ H) :
  ∃W:Nat→Nat→St→Hp→Prop,(∃ m,W 0 m σ H)∧∀i m σ H,W i m σ H →
   ((Itl K a).stop i H∧D.nx σ H)∨((Itl K a).go i H∧∃N:St→Hp→Prop,(∀ σ' H',N σ' H'→∃m',m' < m∧W (i+1) m' σ' H')∧∀x H',(Itl K a).yld i H x H'→g x σ H' fun σ2 H2=>tb { D with nx:=N,ct:=N,bk:=D.nx } σ2 H2):=by
 refine⟨fun i m σ H=>m=xs.length-i∧i≤xs.length∧Pv i σ H,⟨xs.length,by simp,Nat.zero_le _,h0⟩,?_⟩
 rintro i m σ H ⟨rfl,hi,p⟩
 have q:=hl i σ H hi p
 by_cases hlt:i < xs.length
 ·refine .inr ⟨⟨xs,xs[i],q,by simp[hlt]⟩,Pv (i+1),fun σ' H' p'=>⟨xs.length-(i+1),by omega,rfl,hlt,p'⟩,fun x H' y=>?_⟩
  obtain⟨e,y⟩:=y
  subst e
  exact hs i x σ _ (y xs q) p
 ·have e:i=xs.length:=by omega
  subst e
  exact .inl ⟨⟨xs,q,Nat.le_refl _⟩,hd σ H p⟩
theorem ϡ6 {lo:Int}{n:Nat}{g:TG}{tb:TS}{D:Ends}{σ:St}{H:Hp} (Pv:Nat→St→Hp→Prop) (h0:Pv 0 σ H)
  (hs:∀i σ H,i < n→Pv i σ H→g (.int (lo+i)) σ H fun σ2 H2=>tb { D with nx:=Pv (i+1),ct:=Pv (i+1),bk:=D.nx } σ2 H2) (hd:∀σ H,Pv n σ H→D.nx σ H) :
  ∃W:Nat→Nat→St→Hp→Prop,(∃ m,W 0 m σ H)∧∀i m σ H,W i m σ H →
   ((Itr lo n).stop i H∧D.nx σ H)∨((Itr lo n).go i H∧∃N:St→Hp→Prop,(∀ σ' H',N σ' H'→∃m',m' < m∧W (i+1) m' σ' H')∧∀x H',(Itr lo n).yld i H x H'→g x σ H' fun σ2 H2=>tb { D with nx:=N,ct:=N,bk:=D.nx } σ2 H2):=by
 refine⟨fun i m σ H=>m=n-i∧i≤n∧Pv i σ H,⟨n,by simp,Nat.zero_le _,h0⟩,?_⟩
 rintro i m σ H ⟨rfl,hi,p⟩
 by_cases hlt:i < n
 ·refine .inr ⟨hlt,Pv (i+1),fun σ' H' p'=>⟨n-(i+1),by omega,rfl,hlt,p'⟩,fun x H' y=>?_⟩
  obtain⟨e,y⟩:=y
  subst e y
  exact hs i σ _ hlt p
 ·have e:i=n:=by omega
  subst e
  exact .inl ⟨Nat.le_refl _,hd σ H p⟩
end L2
namespace L2
open PySem PySem.Spec PyProof.Rows
abbrev R2:=V→V→Hp→VK→Prop
def OpR (X:Cx) (f:Value→Value→Sem Value) (r:R2):Prop:=
 ∀(pins:List (Addr×Obj)) (s:Shared) (σ:St) (H:Hp) (x y:V) (v u:Value) (Q:VK),Inv X pins σ H s→RelV x v→RelV y u→r x y H Q →
  wpAny (model X.prog X.w) X.A (f v u) (EP X pins σ Q) X.xe s
def UnR (X:Cx) (f:Value→Sem Value) (r:V→Hp→VK→Prop):Prop:=
 ∀(pins:List (Addr×Obj)) (s:Shared) (σ:St) (H:Hp) (x:V) (v:Value) (Q:VK),Inv X pins σ H s→RelV x v→r x H Q →
  wpAny (model X.prog X.w) X.A (f v) (EP X pins σ Q) X.xe s
def ϱi (X:Cx) (f:Value) (r:List V→Hp→VK→Prop):Prop:=
 ∀(pins:List (Addr×Obj)) (s:Shared) (σ:St) (H:Hp) (xs:List V) (us:List Value) (Q:VK),Inv X pins σ H s→Vals xs us→r xs H Q →
  wpAny (model X.prog X.w) X.A (call f us) (EP X pins σ Q) X.xe s
def tOp (r:R2) (ta tb:TE):TE:=fun σ H Q=>ta σ H fun x H1=>tb σ H1 fun y H2=>r x y H2 Q
def tUn (r:V→Hp→VK→Prop) (ta:TE):TE:=fun σ H Q=>ta σ H fun x H1=>r x H1 Q
def rI (C:Int→Int→Prop) (g:Int→Int→V):R2:=fun x y H Q=>∃i j,x=.int i∧y=.int j∧C i j∧Q (g i j) H
def rI0 (g:Int→Int→V):R2:=fun x y H Q=>∃i j,x=.int i∧y=.int j∧Q (g i j) H
def rU (g:Int→V):V→Hp→VK→Prop:=fun x H Q=>∃i,x=.int i∧Q (g i) H
section
variable {X:Cx}{a b c:Expr}{ta tb tc:TE}{pos:Pos}
theorem binT (ha:PE X a ta) (hb:PE X b tb) {pins:List (Addr×Obj)}{s:Shared}{σ:St}{H:Hp}{R:V→V→Hp→Prop} (I:Inv X pins σ H s)
  (h:ta σ H fun x H1=>tb σ H1 fun y H2=>R x y H2) {Q:Value→Shared→Prop}{f:Value→Value→Sem Value}
  (hf:∀v u s2 x y H2,Inv X pins σ H2 s2→RelV x v→RelV y u→R x y H2→wpAny (model X.prog X.w) X.A (f v u) Q X.xe s2) :
  wpAny (model X.prog X.w) X.A (eval a X.env) (fun v s₁=>wpAny (model X.prog X.w) X.A (eval b X.env) (fun u s₂=>wpAny (model X.prog X.w) X.A (f v u) Q X.xe s₂) X.xe s₁) X.xe s:=by
 refine thn (ha pins s σ H _ I h) fun v s1 ⟨x,H1,I1,r1,q1⟩=>?_
 refine thn (hb pins s1 σ H1 _ I1 q1) fun u s2 ⟨y,H2,I2,r2,q2⟩=>?_
 exact hf v u s2 x y H2 I2 r1 r2 q2
theorem ϖu {op:Operator}{r:R2} (ho:OpR X (binaryOp op) r) (ha:PE X a ta) (hb:PE X b tb):PE X (.BinOp a op b pos) (tOp r ta tb):=by
 intro pins s σ H Q I h
 exact wpAny_BinOp (binT ha hb I h fun v u s2 x y H2 I2 rx ry q=>ho pins s2 σ H2 x y v u Q I2 rx ry q)
theorem pe_un {op:UnaryOp}{r:V→Hp→VK→Prop} (ho:UnR X (unaryOp op) r) (ha:PE X a ta):PE X (.UnaryOp op a pos) (tUn r ta):=by
 intro pins s σ H Q I h
 exact UnaryOp_ (thn (ha pins s σ H _ I h) fun v s1 ⟨x,H1,I1,r1,q1⟩=>ho pins s1 σ H1 x v Q I1 r1 q1)
theorem opI {f:Value→Value→Sem Value}{C:Int→Int→Prop}{g:Int→Int→Int}
  (rule:∀(i j:Int) (t u:Tok) (s:Shared) (Q:Value→Shared→Prop) (E:Value→Shared→Prop),C i j→Q (.int (g i j) s.toks) { s with toks:=s.toks+1 }→wpAny (model X.prog X.w) X.A (f (.int i t) (.int j u)) Q E s) :
  OpR X f (rI C fun i j=>.int (g i j)):=by
 intro pins s σ H x y v u Q I rx ry h
 obtain⟨i,j,rfl,rfl,hc,q⟩:=h
 obtain⟨t,rfl⟩:=rx
 obtain⟨t',rfl⟩:=ry
 exact rule i j t t' s _ _ hc ⟨.int (g i j),H,I.tok _,⟨_,rfl⟩,q⟩
theorem opI0 {f:Value→Value→Sem Value}{g:Int→Int→Int}
  (rule:∀(i j:Int) (t u:Tok) (s:Shared) (Q:Value→Shared→Prop) (E:Value→Shared→Prop),Q (.int (g i j) s.toks) { s with toks:=s.toks+1 }→wpAny (model X.prog X.w) X.A (f (.int i t) (.int j u)) Q E s) :
  OpR X f (rI0 fun i j=>.int (g i j)):=by
 intro pins s σ H x y v u Q I rx ry h
 obtain⟨i,j,rfl,rfl,q⟩:=h
 obtain⟨t,rfl⟩:=rx
 obtain⟨t',rfl⟩:=ry
 exact rule i j t t' s _ _ ⟨.int (g i j),H,I.tok _,⟨_,rfl⟩,q⟩
theorem opB0 {f:Value→Value→Sem Value}{g:Int→Int→Bool}
  (rule:∀(i j:Int) (t u:Tok) (s:Shared) (Q:Value→Shared→Prop) (E:Value→Shared→Prop),Q (.bool (g i j)) s→wpAny (model X.prog X.w) X.A (f (.int i t) (.int j u)) Q E s) :
  OpR X f (rI0 fun i j=>.bl (g i j)):=by
 intro pins s σ H x y v u Q I rx ry h
 obtain⟨i,j,rfl,rfl,q⟩:=h
 obtain⟨t,rfl⟩:=rx
 obtain⟨t',rfl⟩:=ry
 exact rule i j t t' s _ _ ⟨.bl (g i j),H,I,rfl,q⟩
def CDiv (i j:Int):Prop:=0 < j∧j < 1073741824
def CMul (i j:Int):Prop:=(-(2 ^ 64) < i∧i < 2 ^ 64)∨(-(2 ^ 64) < j∧j < 2 ^ 64)
theorem CMul.ok {i j:Int} (h:CMul i j):IntMulOk i j:=by
 rcases h with⟨h1,h2⟩|⟨h1,h2⟩
 ·exact .of_left (intBits_le_64 h1 h2)
 ·exact .of_right (intBits_le_64 h1 h2)
theorem ϡI (k:Nat):(0:Int)≤2 ^ k:=by
 rw[two_pow_cast]
 exact Int.natCast_nonneg _
theorem ϖP:OpR X (binaryOp .Add) (rI0 fun i j=>.int (i+j)):=opI0 fun _ _ _ _ _ _ _ q=>add_int q
theorem ϑq:OpR X (binaryOp .Mult) (rI CMul fun i j=>.int (i*j)):=opI fun _ _ _ _ _ _ _ hc q=>mul_int q hc.ok
theorem ϖJ:OpR X (binaryOp .FloorDiv) (rI CDiv fun i j=>.int (i / j)):=opI fun i j _ _ _ _ _ hc q=>by
 have h1:(0:Int) < j:=hc.1
 have h2:j < 1073741824:=hc.2
 exact floordiv_int (by omega) (by rw[Int.fdiv_eq_ediv_of_nonneg i (by omega)];exact q) (.inl (PyProof.noPylong_small (by omega)))
theorem ϖ4:OpR X (binaryOp .Mod) (rI (fun _ j=>0 < j) fun i j=>.int (i % j)):=opI fun i j _ _ _ _ _ hc q=>by
 have h1:(0:Int) < j:=hc
 exact mod_int' (by omega) (by rw[Int.fmod_eq_emod_of_nonneg i (by omega)];exact q)
theorem op_shr:OpR X (binaryOp .RShift) (rI (fun _ j=>0≤j) fun i j=>.int (i / 2 ^ j.toNat)):=opI fun i j _ _ _ _ _ hc q=>
 rshift_int hc (by rw[Int.fdiv_eq_ediv_of_nonneg i (ϡI _)];exact q)
theorem unI {f:Value→Sem Value}{g:Int→Int}
  (rule:∀(i:Int) (t:Tok) (s:Shared) (Q:Value→Shared→Prop) (E:Value→Shared→Prop),Q (.int (g i) s.toks) { s with toks:=s.toks+1 }→wpAny (model X.prog X.w) X.A (f (.int i t)) Q E s) :
  UnR X f (rU fun i=>.int (g i)):=by
 intro pins s σ H x v Q I rx h
 obtain⟨i,rfl,q⟩:=h
 obtain⟨t,rfl⟩:=rx
 exact rule i t s _ _ ⟨.int (g i),H,I.tok _,⟨_,rfl⟩,q⟩
theorem ϝ6:UnR X (unaryOp .USub) (rU fun i=>.int (-i)):=unI fun _ _ _ _ _ q=>neg_int q
end
def scal:V→V→Bool
 |.non,.non=>true|.non,.int _=>true|.int _,.non=>true|.non,.bl _=>true|.bl _,.non=>true|.non,.str _=>true|.str _,.non=>true
 |.int _,.int _=>true|.bl _,.bl _=>true|.str _,.str _=>true|.byt _,.byt _=>true
 |.int _,.str _=>true|.str _,.int _=>true|.bl _,.str _=>true|.str _,.bl _=>true
 |_,_=>false
def rEq:R2:=fun x y H Q=>scal x y=true∧Q (.bl (decide (x=y))) H
def rNe:R2:=fun x y H Q=>scal x y=true∧Q (.bl (!decide (x=y))) H
theorem ϡQ {i j:Int}:decide (V.int i=V.int j)=(i == j):=by
 rw[Bool.eq_iff_iff]
 simp
theorem ϝM {i j:Bool}:decide (V.bl i=V.bl j)=(i == j):=by
 rw[Bool.eq_iff_iff]
 simp
theorem ϟX {i j:Str}:decide (V.str i=V.str j)=(i == j):=by
 rw[Bool.eq_iff_iff]
 simp
theorem ϟH {i j:Array UInt8}:decide (V.byt i=V.byt j)=(i.toList == j.toList):=by
 rw[Bool.eq_iff_iff]
 cases i
 cases j
 simp
section
variable {X:Cx}{a b c:Expr}{ta tb tc:TE}{pos:Pos}
theorem ϑb {pins:List (Addr×Obj)}{σ:St}{H:Hp}{s:Shared}{Q:VK}{k k':Bool} (I:Inv X pins σ H s) (q:Q (.bl k) H) (e:k=k'):EP X pins σ Q (.bool k') s:=by
 subst e
 exact⟨.bl k,H,I,rfl,q⟩
theorem ϵS:OpR X (compareOp .Eq) rEq:=by
 intro pins s σ H x y v u Q I rx ry h
 obtain⟨hs,q⟩:=h
 cases x with
 |non=>
  cases rx
  cases y with
  |non=>cases ry;exact PySem.EqNone.eq_none_none (ϑb I q (by simp))
  |bl j=>cases ry;exact PySem.EqNone.eq_none_bool (ϑb I q (by simp))
  |int j=>obtain⟨t',rfl⟩:=ry;exact PySem.EqNone.eq_none_int (ϑb I q (by simp))
  |str j=>obtain⟨t',rfl⟩:=ry;exact PySem.EqNone.eq_none_str (ϑb I q (by simp))
  |_=>exact absurd (show false=true from hs) Bool.false_ne_true
 |bl i=>
  cases rx
  cases y with
  |non=>cases ry;exact PySem.EqNone.eq_bool_none (ϑb I q (by simp))
  |bl j=>cases ry;exact eq_bool (ϑb I q ϝM)
  |str j=>obtain⟨t',rfl⟩:=ry;exact PySem.EqMixed.eq_bool_str (ϑb I q (by simp))
  |_=>exact absurd (show false=true from hs) Bool.false_ne_true
 |int i=>
  obtain⟨t,rfl⟩:=rx
  cases y with
  |non=>cases ry;exact PySem.EqNone.eq_int_none (ϑb I q (by simp))
  |int j=>obtain⟨t',rfl⟩:=ry;exact eq_int (ϑb I q ϡQ)
  |str j=>obtain⟨t',rfl⟩:=ry;exact PySem.EqMixed.eq_int_str (ϑb I q (by simp))
  |_=>exact absurd (show false=true from hs) Bool.false_ne_true
 |str i=>
  obtain⟨t,rfl⟩:=rx
  cases y with
  |non=>cases ry;exact PySem.EqNone.eq_str_none (ϑb I q (by simp))
  |bl j=>cases ry;exact PySem.EqMixed.eq_str_bool (ϑb I q (by simp))
  |int j=>obtain⟨t',rfl⟩:=ry;exact PySem.EqMixed.eq_str_int (ϑb I q (by simp))
  |str j=>obtain⟨t',rfl⟩:=ry;exact eq_str (ϑb I q ϟX)
  |_=>exact absurd (show false=true from hs) Bool.false_ne_true
 |byt i=>
  obtain⟨t,rfl⟩:=rx
  cases y with
  |byt j=>obtain⟨t',rfl⟩:=ry;exact PySem.W.eq_bytes (ϑb I q ϟH)
  |_=>exact absurd (show false=true from hs) Bool.false_ne_true
 |_=>cases y<;>exact absurd (show false=true from hs) Bool.false_ne_true
theorem ϛS:OpR X (compareOp .NotEq) rNe:=by
 intro pins s σ H x y v u Q I rx ry h
 obtain⟨hs,q⟩:=h
 cases x with
 |non=>
  cases rx
  cases y with
  |non=>cases ry;exact PySem.EqNone.ne_none_none (ϑb I q (by simp))
  |bl j=>cases ry;exact PySem.EqNone.ne_none_bool (ϑb I q (by simp))
  |int j=>obtain⟨t',rfl⟩:=ry;exact PySem.EqNone.ne_none_int (ϑb I q (by simp))
  |str j=>obtain⟨t',rfl⟩:=ry;exact PySem.EqNone.ne_none_str (ϑb I q (by simp))
  |_=>exact absurd (show false=true from hs) Bool.false_ne_true
 |bl i=>
  cases rx
  cases y with
  |non=>cases ry;exact PySem.EqNone.ne_bool_none (ϑb I q (by simp))
  |bl j=>cases ry;exact ne_bool (ϑb I q (congrArg not ϝM))
  |str j=>obtain⟨t',rfl⟩:=ry;exact PySem.EqMixed.ne_bool_str (ϑb I q (by simp))
  |_=>exact absurd (show false=true from hs) Bool.false_ne_true
 |int i=>
  obtain⟨t,rfl⟩:=rx
  cases y with
  |non=>cases ry;exact PySem.EqNone.ne_int_none (ϑb I q (by simp))
  |int j=>obtain⟨t',rfl⟩:=ry;exact ne_int (ϑb I q (congrArg not ϡQ))
  |str j=>obtain⟨t',rfl⟩:=ry;exact PySem.EqMixed.ne_int_str (ϑb I q (by simp))
  |_=>exact absurd (show false=true from hs) Bool.false_ne_true
 |str i=>
  obtain⟨t,rfl⟩:=rx
  cases y with
  |non=>cases ry;exact PySem.EqNone.ne_str_none (ϑb I q (by simp))
  |bl j=>cases ry;exact PySem.EqMixed.ne_str_bool (ϑb I q (by simp))
  |int j=>obtain⟨t',rfl⟩:=ry;exact PySem.EqMixed.ne_str_int (ϑb I q (by simp))
  |str j=>obtain⟨t',rfl⟩:=ry;exact ne_str (ϑb I q (congrArg not ϟX))
  |_=>exact absurd (show false=true from hs) Bool.false_ne_true
 |byt i=>
  obtain⟨t,rfl⟩:=rx
  cases y with
  |byt j=>obtain⟨t',rfl⟩:=ry;exact PySem.W.ne_bytes (ϑb I q (congrArg not ϟH))
  |_=>exact absurd (show false=true from hs) Bool.false_ne_true
 |_=>cases y<;>exact absurd (show false=true from hs) Bool.false_ne_true
theorem op_lt:OpR X (compareOp .Lt) (rI0 fun i j=>.bl (decide (i < j))):=opB0 fun _ _ _ _ _ _ _ q=>lt_int q
theorem op_le:OpR X (compareOp .LtE) (rI0 fun i j=>.bl (decide (i≤j))):=opB0 fun _ _ _ _ _ _ _ q=>le_int q
theorem ϱn:OpR X (compareOp .Gt) (rI0 fun i j=>.bl (decide (j < i))):=opB0 fun _ _ _ _ _ _ _ q=>gt_int q
theorem ϱk:OpR X (compareOp .Is) (fun x y H Q=>y=.non∧Q (.bl (decide (x=.non))) H):=by
 intro pins s σ H x y v u Q I rx ry h
 obtain⟨rfl,q⟩:=h
 cases ry
 refine is_none_gen (ϑb I q ?_)
 cases x<;>first
  |(cases rx;rfl)
  |(obtain⟨t,rfl⟩:=rx;rfl)
theorem ϟv:OpR X (compareOp .IsNot) (fun x y H Q=>y=.non∧Q (.bl (!decide (x=.non))) H):=by
 intro pins s σ H x y v u Q I rx ry h
 obtain⟨rfl,q⟩:=h
 cases ry
 refine isnot_none_gen (ϑb I q ?_)
 cases x<;>first
  |(cases rx;rfl)
  |(obtain⟨t,rfl⟩:=rx;rfl)
theorem ϖY (b:Expr) {op:CmpOp} (h:op≠.In:=by decide) (h2:op≠.NotIn:=by decide):behindInMarks op b=false:=by
 have e1:(op == CmpOp.In)=false:=by cases op<;>first|rfl|exact absurd rfl h
 have e2:(op == CmpOp.NotIn)=false:=by cases op<;>first|rfl|exact absurd rfl h2
 cases b<;>simp[behindInMarks,e1,e2]
theorem ϱf {op:CmpOp}{r:R2} (ho:OpR X (compareOp op) r) (ha:PE X a ta) (hb:PE X b tb) (hm:behindInMarks op b=false):PE X (.Compare a [op] [b] pos) (tOp r ta tb):=by
 intro pins s σ H Q I h
 exact wpAny_Compare1 (binT ha hb I h fun v u s2 x y H2 I2 rx ry q=>ho pins s2 σ H2 x y v u Q I2 rx ry q) hm
def tTest (t:TE):TT:=fun σ H Q=>t σ H fun x H'=>∃k,x=.bl k∧Q k H'
theorem ϖI {op:CmpOp}{r:R2} (ho:OpR X (compareOp op) r) (ha:PE X a ta) (hb:PE X b tb) (hm:behindInMarks op b=false):PT X (.Compare a [op] [b] pos) (tTest (tOp r ta tb)):=by
 intro pins s σ H Q I h
 refine wpAny_isTrue_Compare1 (thn (ha pins s σ H _ I h) fun v s1 ⟨x,H1,I1,r1,q1⟩=>thn (hb pins s1 σ H1 _ I1 q1) fun u s2 ⟨y,H2,I2,r2,q2⟩=>
  thn (ho pins s2 σ H2 x y v u _ I2 r1 r2 q2) fun c s3 ⟨z,H3,I3,r3,k,e,q3⟩=>?_) hm
 subst e
 cases r3
 exact wpAny_truthy_bool ⟨H3,I3,q3⟩
theorem ϵd:(sizeLine:Nat) < 2 ^ 63:=by rw[sizeLine_eq];decide
theorem ϑk:OpR X (binaryOp .Add) (fun x y H Q=>∃i j,x=.str i∧y=.str j∧i.length+j.length≤sizeLine∧Q (.str (i++j)) H):=by
 intro pins s σ H x y v u Q I rx ry h
 obtain⟨i,j,rfl,rfl,hz,q⟩:=h
 obtain⟨t,rfl⟩:=rx
 obtain⟨t',rfl⟩:=ry
 exact add_str (fun t' tk=>⟨.str (i++j),H,I.tok _,⟨_,rfl⟩,q⟩) hz
theorem ϲU {x:V}{us:List Value} (r:Vals [x] us):∃u,us=[u]∧RelV x u:=by
 cases r with
 |cons r1 r2=>cases r2;exact⟨_,rfl,r1⟩
theorem ϡ3 {x y:V}{us:List Value} (r:Vals [x,y] us):∃u w',us=[u,w']∧RelV x u∧RelV y w':=by
 cases r with
 |cons r1 r2=>
  cases r2 with
  |cons r3 r4=>cases r4;exact⟨_,_,rfl,r1,r3⟩
theorem ϱO (hc:X.calm=true):ϱi X (.builtin "max") (fun xs H Q=>∃i j,xs=[.int i,.int j]∧Q (.int (if j > i then j else i)) H):=by
 intro pins s σ H xs us Q I r h
 obtain⟨i,j,rfl,q⟩:=h
 obtain⟨u,w',rfl,⟨t,rfl⟩,⟨t',rfl⟩⟩:=ϡ3 r
 refine max_two_ints (I.ok.hd hc) fun h' tk k=>⟨_,H,I.kept k,?_,q⟩
 by_cases hj:j > i
 ·rw[if_pos hj,if_pos hj];exact⟨_,rfl⟩
 ·rw[if_neg hj,if_neg hj];exact⟨_,rfl⟩
theorem ϱX (hc:X.calm=true):ϱi X (.builtin "min") (fun xs H Q=>∃i j,xs=[.int i,.int j]∧Q (.int (if j < i then j else i)) H):=by
 intro pins s σ H xs us Q I r h
 obtain⟨i,j,rfl,q⟩:=h
 obtain⟨u,w',rfl,⟨t,rfl⟩,⟨t',rfl⟩⟩:=ϡ3 r
 refine min_two_ints (I.ok.hd hc) fun h' tk k=>⟨_,H,I.kept k,?_,q⟩
 by_cases hj:j < i
 ·rw[if_pos hj,if_pos hj];exact⟨_,rfl⟩
 ·rw[if_neg hj,if_neg hj];exact⟨_,rfl⟩
end
end L2
namespace L2
open PySem PySem.Spec PyProof.Rows
section
variable {prog:Program}{w:World}{A:Around}{E:Value→Shared→Prop}{s:Shared}{K:PySem.W.Frag}{x dx C f:Addr}{mA:Str→Option Value}{name:Str}{v:Value}
end
def putF (f:Str) (v:V):List (Str×V)→List (Str×V)
 |[]=>[(f,v)]
 |(g,x)::r=>if g=f then (g,v)::r else (g,x)::putF f v r
theorem RelO.some_of {v:V}{o:Option Value} (r:RelO (some v) o):∃u,o=some u∧RelV v u:=by
 cases o with
 |none=>exact(show False from r).elim
 |some u=>exact⟨u,rfl,r⟩
section
variable {P:Program}{w:World}{H H':Hp}{h h':Heap}{a C dx:Addr}{fs fs':List (Str×V)}
end
structure Cls (K:PySem.W.Frag) (C:Addr):Prop where
 pg:PySem.W.plainGet K C Str.empty=true
 hd:PySem.W.hasDictIn K C=true
 po:PySem.W.plainOver K C=true
 sa:PySem.W.findIn K (.ref C) "__setattr__"=some (some (.builtin "object.__setattr__"))
section
variable {X:Cx}{pins:List (Addr×Obj)}{σ:St}{H:Hp}{s:Shared}{a C dx:Addr}{fs:List (Str×V)}{f:Str}{v:V}{A:Around}{E:Value→Shared→Prop}
end
section
variable {X:Cx}{o e value:Expr}{f:Str}{pos pos' tpos:Pos}{ta tv:TE}
end
section
variable {X:Cx}{pins:List (Addr×Obj)}{σ:St}{H:Hp}{s:Shared}{A:Around}{E:Value→Shared→Prop}{Q:Value→Shared→Prop}{c:Value}{b:Bool}
inductive TyOf (K:PySem.W.Frag) (H:Hp):V→Value→Prop where
 |non:TyOf K H .non (.type "NoneType")
 |bl (x:Bool):TyOf K H (.bl x) (.type "bool")
 |int (i:Int):TyOf K H (.int i) (.type "int")
 |str (x:Str):TyOf K H (.str x) (.type "str")
 |flt (x:UInt64):TyOf K H (.flt x) (.type "float")
 |lst {a:Addr}{xs:List V} (e:H a=some (.lst xs)):TyOf K H (.ref a) (.type "list")
 |frz {a:Addr}{o:Obj}{xs:List V} (e:H a=some (.frz o (.lst xs))):TyOf K H (.ref a) (.type "list")
 |tup {a:Addr}{xs:List V} (e:H a=some (.tup xs)):TyOf K H (.ref a) (.type "tuple")
 |dK {a:Addr}{kvs:List (Key×V)} (e:H a=some (.dK kvs)):TyOf K H (.ref a) (.type "dict")
 |dT {a:Addr}{kvs:List (List Key×V)} (e:H a=some (.dT kvs)):TyOf K H (.ref a) (.type "dict")
 |ins {a C dx:Addr}{fs:List (Str×V)} (e:H a=some (.ins C dx fs)) (cl:Cls K C) (ha:PySem.W.findIn K (.ref C) "__class__"=some (some (.builtin "object.__class__")))
   (hn:PySem.W.specialIn K (.builtin "object.__class__") "__get__"=some (some (.builtin "getset_descriptor.__get__"))) (htk:PySem.W.takesIn K (.builtin "object.__class__")=some true)
   (hm:PySem.W.mroIn K C (.type "object")=some true):TyOf K H (.ref a) (.ref C)
end
end L2
namespace L2
open PySem PySem.Spec PyProof.Rows
structure Room (k:Nat) (A:Around):Prop where
 hd:A.handled=none
 dp:A.depth+3*k+5 < recursionLimit
 un:A.units+16*k+200 < cLine
theorem Room.mono {j k:Nat}{A:Around} (r:Room k A) (h:j≤k):Room j A:=⟨r.hd,by have:=r.dp;omega,by have:=r.un;omega⟩
theorem Room.deeper {k:Nat}{A:Around} (r:Room (k+1) A) (env:Env):Room k (A.deeper env):=
 ⟨r.hd,by have:=r.dp;show A.depth+1+3*k+5 < _;omega,by have:=r.un;show A.units+3+16*k+200 < _;omega⟩
theorem Room.depth {k:Nat}{A:Around} (r:Room k A):A.depth < recursionLimit:=by have:=r.dp;omega
theorem Room.units {k:Nat}{A:Around} (r:Room k A):A.units+64 < cLine:=by have:=r.un;omega
def tNil:TA:=fun _ H Q=>Q [] H
def ϟ2 (ta:TE) (tr:TA):TA:=fun σ H Q=>ta σ H fun x H1=>tr σ H1 fun xs H2=>Q (x::xs) H2
section
variable {X:Cx}{e:Expr}{es:List Expr}{te:TE}{t:TA}{pos:Pos}
theorem ϖh:PA X [] tNil:=fun _ _ _ _ H Q I h=>Calls.spliced_nil ⟨[],H,I,.nil,h⟩
theorem ϖa (ha:PE X e te) (hr:PA X es t) (hs:starEach (e::es) X.env=(false,eval e X.env)::starEach es X.env:=by rfl):PA X (e::es) (ϟ2 te t):=by
 intro pos pins s σ H Q I h
 rw[hs]
 show wpAny _ _ (spliced ((false,eval e X.env)::backTo pos (starEach es X.env))) _ _ s
 refine Calls.spliced_cons (thn (ha pins s σ H _ I h) fun u s1 ⟨x,H1,I1,r1,q1⟩=>?_)
 exact thn (hr pos pins s1 σ H1 _ I1 q1) fun us s2 ⟨xs,H2,I2,r2,q2⟩=>⟨x::xs,H2,I2,.cons r1 r2,q2⟩
def tTup (t:TA):TE:=fun σ H Q=>t σ H fun xs H1=>xs.length≤sizeLine∧∀p,H1 p=none→Q (.ref p) (upd H1 p (.tup xs))
def tLst (t:TA):TE:=fun σ H Q=>t σ H fun xs H1=>xs.length≤sizeLine∧∀p,H1 p=none→Q (.ref p) (upd H1 p (.lst xs))
theorem ϖG {x1} (h:PA X es t):PE X (.Tuple es x1 pos) (tTup t):=by
 intro pins s σ H Q I hq
 refine wpAny_Tuple_spliced (thn (h pos pins s σ H _ I hq) fun us s1 ⟨xs,H1,I1,r,z,q⟩=>⟨by rw[← r.length];exact z,?_⟩)
 have hf:H1 s1.heap.objs.size=none:=I1.hok.fresh (Nat.le_refl _)
 refine⟨.ref s1.heap.objs.size,upd H1 s1.heap.objs.size (.tup xs),I1.laid (t':=s1.toks) (fun b u e=>Heap.get?_push_of_some _ e) (Nat.le_refl _) ?_,rfl,q _ hf⟩
 exact⟨z,us,r,⟨_,Heap.get?_push_size _ rfl,rfl,_,rfl⟩⟩
theorem ϑa (h:PA X es t):PE X (.List es pos) (tLst t):=by
 intro pins s σ H Q I hq
 refine wpAny_List_spliced (thn (h pos pins s σ H _ I hq) fun us s1 ⟨xs,H1,I1,r,z,q⟩=>⟨by rw[← r.length];exact z,?_⟩)
 have hf:H1 s1.heap.objs.size=none:=I1.hok.fresh (Nat.le_refl _)
 refine⟨.ref s1.heap.objs.size,upd H1 s1.heap.objs.size (.lst xs),I1.laid (t':=s1.toks) (fun b u e=>Heap.get?_push_of_some _ e) (Nat.le_refl _) ?_,rfl,q _ hf⟩
 exact⟨z,us,0,r,Heap.get?_push_size _ rfl⟩
end
abbrev Sp:=List V→Hp→VK→XK→Prop
abbrev CXT:=List Env→Hp→Shared→XK→Value→Shared→Prop
structure Env0 (P:Program) (w:World) (K:PySem.W.Frag) (mg:Str→Option Value) (base:Heap) (A:Around) (outer:List Env) (s:Shared) (H:Hp):Prop where
 frames:A.frames=some outer
 mod:Mod K mg base
 bs:∀b o,base.get? b=some o→s.heap.get? b=some o∧H b=none
 bsz:base.objs.size≤s.heap.objs.size
 funs:s.heap.FunFrames base outer
 frf:∀b∈frs outer,H b=none
 hok:HOk P w H s.heap
 bare:AllBare s.gens
def CE (outer:List Env) (P:Program) (w:World) (H:Hp) (s:Shared) (Q:VK) (u:Value) (s':Shared):Prop:=
 ∃v H',s'.os=s.os∧AllBare s'.gens∧Un (frs outer) [] H H' s.heap s'.heap∧HOk P w H' s'.heap∧RelV v u∧Q v H'
def CR (CX:CXT) (outer:List Env) (P:Program) (w:World) (H:Hp) (s:Shared) (Q:VK) (E:XK) (r:Result) (s':Shared):Prop:=
 match r with
 |.ok (.ret u)=>CE outer P w H s Q u s'
 |.ok _=>False
 |.error e=>CX outer H s E e s'
structure FnOk (P:Program) (w:World) (K:PySem.W.Frag) (mg:Str→Option Value) (base:Heap) (CX:CXT) (k:Nat) (f:Addr) (fd:FuncData) (ps:List Str) (sp:Sp):Prop where
 len:∀vs H Q E,sp vs H Q E→vs.length=ps.length
 run:∀(A:Around) (outer:List Env) (s:Shared) (H:Hp) (args:Args) (us:List Value) (vs:List V) (Q:VK) (E:XK),Room k A→Env0 P w K mg base A outer s H→BindsTo s fd args (ps.zip us)→Vals vs us→sp vs H Q E →
  codeAny (model P w) A (.call (.ref f) args) (CR CX outer P w H s Q E) s
section
variable {X:Cx}{pins:List (Addr×Obj)}{σ:St}{H:Hp}{s s':Shared}
theorem Inv.env0 (I:Inv X pins σ H s):Env0 X.prog X.w X.K X.mg X.base X.A X.stack s H:=
 ⟨I.ok.frames,I.ok.mod,I.bs,Nat.le_trans I.ok.bsz I.sz,I.stack,I.stkFree,I.hok,I.bare⟩
theorem Inv.after {Q:VK}{u:Value} (I:Inv X pins σ H s) (h:CE X.stack X.prog X.w H s Q u s'):EP X pins σ Q u s':=by
 obtain⟨v,H',os,bare,un,hok,r,q⟩:=h
 obtain⟨hh,g,d,t,os'⟩:=s'
 obtain rfl:os'=s.os:=os
 exact⟨v,H',I.call (h':=hh) (g':=g) (d':=d) (t':=t) (ch:=[]) un hok bare (fun b z=>absurd z (by simp)),r,q⟩
end
def Binds (K:PySem.W.Frag) (fd:FuncData) (ps:List Str) (ds:List Value):Prop:=
 ∀(s:Shared) (us:List Value),K.In s.heap→(us++ds).length=ps.length→BindsTo s fd ⟨us,[]⟩ (ps.zip (us++ds))
theorem Binds.all {K:PySem.W.Frag}{fd:FuncData}{ps:List Str} (h:∀us:List Value,us.length=ps.length→bindArgs fd ⟨us,[]⟩=pure (ps.zip us)):Binds K fd ps []:=fun s us _ hl=>by
 rw[List.append_nil] at hl⊢
 exact .of_eq (h us hl)
def ϵ7 (CX:CXT) (X:Cx) (E:XK):Prop:=∀(pins:List (Addr×Obj)) (σ:St) (H:Hp) (s:Shared) (e:Value) (s':Shared),Inv X pins σ H s→CX X.stack H s E e s'→X.xe e s'
section
variable {X:Cx}{CX:CXT}{k:Nat}{f C:Addr}{fd:FuncData}{ps:List Str}{sp:Sp}{dvs:List V}{ds:List Value}{E:XK}{x m:Str}{p pos apos:Pos}{e o:Expr}{es:List Expr}{ta:TE}{t:TA}
theorem ϝY {pins:List (Addr×Obj)}{σ:St}{H:Hp}{s:Shared}{Q:VK}{us:List Value}{vs:List V} (F:FnOk X.prog X.w X.K X.mg X.base CX k f fd ps sp) (hr:Room k X.A) (hb:Binds X.K fd ps ds) (hd:Vals dvs ds) (hx:ϵ7 CX X E)
  (I:Inv X pins σ H s) (r:Vals vs us) (h:sp (vs++dvs) H Q E):wpAny (model X.prog X.w) X.A (call (.ref f) us) (EP X pins σ Q) X.xe s:=by
 have r2:Vals (vs++dvs) (us++ds):=r.append hd
 have hl:(us++ds).length=ps.length:=by rw[← r2.length];exact F.len _ _ _ _ h
 refine wpAny_call (codeAny_mono (F.run X.A X.stack s H ⟨us,[]⟩ (us++ds) (vs++dvs) Q E hr I.env0 (hb s us I.kIn hl) r2 h) fun r s' hq=>?_)
 cases r with
 |error e=>exact hx pins σ H s e s' I hq
 |ok fl=>
  cases fl with
  |ret u=>exact I.after hq
  |next=>exact False.elim hq
  |brk=>exact False.elim hq
  |cont=>exact False.elim hq
structure Mk (K:PySem.W.Frag) (C f:Addr):Prop where
 makes:PySem.W.makesIn K C=true
 init:PySem.W.findIn K (.ref C) "__init__"=some (some (.ref f))
 fn:PySem.W.isFn K (.ref f)=true
 kp:PySem.W.keepIn K (.ref C)=true
end
section
variable {X:Cx}{CX:CXT}{k:Nat}{f C:Addr}{fd:FuncData}{ps ks:List Str}{sp:Sp}{E:XK}{x m:Str}{p pos apos kpos:Pos}{e o:Expr}{es:List Expr}{kws:List Keyword}{te ta:TE}{t tk:TA}{nm:Option Str}
variable {g:List Value→List Value→List Value}{gV:List V→List V→List V}
end
structure FnScope (N P:List Str) (sc:Scope):Prop where
 kind:sc.kind=.function
 co:sc.isCoroutine=false
 gen:sc.isGenerator=false
 nd:N.Nodup
 pre:N.take P.length=P
 par:∀x∈P,sc.names.lookup x=some .local∨sc.names.lookup x=some .cell
 nofree:∀y∈sc.names,y.2≠.free
theorem ϲu {kindOf:Str→Option NameKind}{x:Str}:∀{binds:List (Str×Value)}{m:Str→Option Value},(∀ v,(x,v)∉binds)→bindL kindOf binds m x=m x
 |[],_,_=>rfl
 |(n,v)::r,m,h=>by
  unfold bindL
  rw[ϲu fun w hw=>h w (List.mem_cons_of_mem _ hw)]
  split
  ·have:x≠n:=by rintro rfl;exact h v List.mem_cons_self
   simp[this]
  ·rfl
theorem ϲk {kindOf:Str→Option NameKind}{x:Str}:∀{binds:List (Str×Value)}{m:Str→Option Value},(∀ v,(x,v)∉binds)→bindC kindOf binds m x=m x
 |[],_,_=>rfl
 |(n,v)::r,m,h=>by
  unfold bindC
  rw[ϲk fun w hw=>h w (List.mem_cons_of_mem _ hw)]
  split
  ·rfl
  ·have:x≠n:=by rintro rfl;exact h v List.mem_cons_self
   simp[this]
theorem ϵ6 {kindOf:Str→Option NameKind}{x:Str}{v:Value}:∀{P:List Str}{vs:List Value}{i:Nat}{m:Str→Option Value},P.Nodup→P[i]?=some x→vs[i]?=some v→kindOf x=some .local →
  bindL kindOf (P.zip vs) m x=some v
 |[],_,_,_,_,h,_,_=>by simp at h
 |_::_,[],_,_,_,_,h,_=>by simp at h
 |p::P,w::vs,0,m,nd,h1,h2,hk=>by
  simp at h1 h2;subst h1;subst h2
  show bindL kindOf ((p,w)::P.zip vs) m p=_
  unfold bindL
  rw[ϲu fun v hv=>(List.nodup_cons.mp nd).1 (List.of_mem_zip hv).1,if_pos hk]
  simp
 |p::P,w::vs,i+1,m,nd,h1,h2,hk=>by
  show bindL kindOf ((p,w)::P.zip vs) m x=_
  unfold bindL
  exact ϵ6 (i:=i) (List.nodup_cons.mp nd).2 (by simpa using h1) (by simpa using h2) hk
theorem ϲr {kindOf:Str→Option NameKind}{x:Str}{v:Value}:∀{P:List Str}{vs:List Value}{i:Nat}{m:Str→Option Value},P.Nodup→P[i]?=some x→vs[i]?=some v→kindOf x≠some .local →
  bindC kindOf (P.zip vs) m x=some v
 |[],_,_,_,_,h,_,_=>by simp at h
 |_::_,[],_,_,_,_,h,_=>by simp at h
 |p::P,w::vs,0,m,nd,h1,h2,hk=>by
  simp at h1 h2;subst h1;subst h2
  show bindC kindOf ((p,w)::P.zip vs) m p=_
  unfold bindC
  rw[ϲk fun v hv=>(List.nodup_cons.mp nd).1 (List.of_mem_zip hv).1,if_neg hk]
  simp
 |p::P,w::vs,i+1,m,nd,h1,h2,hk=>by
  show bindC kindOf ((p,w)::P.zip vs) m x=_
  unfold bindC
  exact ϲr (i:=i) (List.nodup_cons.mp nd).2 (by simpa using h1) (by simpa using h2) hk
def start (N:List Str) (vs:List V):St:=vs.map some++List.replicate (N.length-vs.length) none
def cxOf (CX:CXT) (P:Program) (w:World) (K:PySem.W.Frag) (mg:Str→Option Value) (base:Heap) (N:List Str) (qual:Str) (scope:Scope) (f:Addr) (cd:Value) (A:Around) (outer:List Env) (s:Shared) (H:Hp) (E:XK):Cx where
 prog:=P
 w:=w
 K:=K
 mg:=mg
 base:=base
 A:=A.deeper (envOfC qual scope s.heap.objs.size f cd)
 N:=N
 s₀:=s
 H₀:=H
 env:=envOfC qual scope s.heap.objs.size f cd
 outer:=outer
 stack:=envOfC qual scope s.heap.objs.size f cd::outer
 ex:=[]
 calm:=true
 fn:=fun _=>true
 pn:=[]
 xe:=fun e s'=>wpAny (model P w) (A.deeper (envOfC qual scope s.heap.objs.size f cd)) (leaving (envOfC qual scope s.heap.objs.size f cd) e) (fun _ s''=>CX outer H s E e s'') (fun e' s''=>CX outer H s E e' s'') s'
theorem ϡn {sc:Scope}{n:Nat}{x:Str} (h:sc.names.lookup x=some .cell):∃c,(cellsFrom n sc.names []).lookup x=some c:=by
 have q:=PySem.W.cellsFrom_some sc.names n [] (.inl h)
 exact Option.isSome_iff_exists.mp q
theorem ϟt {CX:CXT}{P:Program}{w:World}{K:PySem.W.Frag}{mg:Str→Option Value}{base:Heap}{N ps:List Str}{qual:Str}{scope:Scope}{f:Addr}{cd:Value}{A:Around}{outer:List Env}{s s1:Shared}{H:Hp}{E:XK}{us:List Value}{vs:List V}
  (S:FnScope N ps scope) (hd:A.handled=none) (e0:Env0 P w K mg base A outer s H) (hl:vs.length=ps.length) (r:Vals vs us)
  (x:InCallC s s.heap.objs.size (bindL (envOfC qual scope s.heap.objs.size f cd).kindOf (ps.zip us) fun _=>none) (cellsFrom (s.heap.objs.size+1) scope.names []) (bindC (envOfC qual scope s.heap.objs.size f cd).kindOf (ps.zip us) fun _=>none) s1) :
  Inv (cxOf CX P w K mg base N qual scope f cd A outer s H E) [] (start N vs) H s1:=by
 have hpl:ps.length≤N.length:=by have:=congrArg List.length S.pre;rw[List.length_take] at this;omega
 obtain⟨h1,tk,rfl,hk⟩:=x.done
 have noA:∀b:Addr,b∉(cxOf CX P w K mg base N qual scope f cd A outer s H E).ex:=fun b z=>absurd (show b∈([]:List Addr) from z) (by simp)
 refine⟨⟨e0.mod,S.kind,rfl,rfl,Nat.le_refl _,fun y z c h1 h2=>?_,fun y hy=>?_,fun y c _ h=>?_,fun _=>hd,Around.frames_deeper e0.frames,.inr ⟨rfl,rfl⟩,fun b z=>absurd z (noA b),e0.bs,e0.bsz,fun b _ _=>noA b,fun b z=>absurd z (noA b),e0.funs,e0.frf⟩,
  rfl,e0.bare,Un.kept hk,⟨_,x.toInCall.ns,fun i y v h1 h2 h3=>?_⟩,fun y c h=>⟨_,x.cell y c h⟩,e0.hok.fresh (Nat.le_refl _),fun y c h=>?_,fun p hp=>absurd (show p∈([]:List (Addr×Obj)) from hp) (by simp),e0.hok.kept hk,?_⟩
 ·exact name_of_addr x.apart (PySem.mem_of_lookup h1) (PySem.mem_of_lookup h2)
 ·have hy:scope.names.lookup y=some .cell∨scope.names.lookup y=some .free:=hy
  rcases hy with hy|hy
  ·exact ϡn hy
  ·exact absurd rfl (S.nofree _ (PySem.mem_of_lookup hy))
 ·exact Nat.le_of_lt (x.above y c (PySem.mem_of_lookup h))
 ·have hi:i < vs.length:=by
   unfold start at h2
   by_cases hi:i < vs.length
   ·exact hi
   ·rw[List.getElem?_append_right (by simpa using hi)] at h2
    rw[List.getElem?_replicate] at h2
    split at h2<;>cases h2
  have ha:vs[i]?=some v:=by
   unfold start at h2
   rw[List.getElem?_append_left (by simpa using hi),List.getElem?_map] at h2
   cases e:vs[i]? with
   |none=>rw[e] at h2;cases h2
   |some a=>rw[e] at h2;cases h2;rfl
  obtain⟨u,hu,rv⟩:=r.get ha
  have hp:ps[i]?=some y:=by
   rw[← S.pre,List.getElem?_take_of_lt (by omega)];exact h1
  have ndP:ps.Nodup:=by rw[← S.pre];exact S.nd.sublist (List.take_sublist _ _)
  refine⟨u,rv,?_⟩
  rcases S.par y (List.mem_of_getElem? hp) with k|k
  ·exact .inl ⟨k,ϵ6 ndP hp hu k⟩
  ·obtain⟨c,e⟩:=ϡn (n:=s.heap.objs.size+1) k
   refine .inr ⟨.inl k,c,e,?_⟩
   have q:=x.cell y c e
   rw[ϲr ndP hp hu (by show scope.names.lookup y≠_;rw[k];decide)] at q
   exact q
 ·exact e0.hok.fresh (Nat.le_of_lt (x.above y c (PySem.mem_of_lookup h)))
 ·unfold start
  show _=N.length
  rw[List.length_append,List.length_map,List.length_replicate]
  omega
theorem fn_of {CX:CXT}{P:Program}{w:World}{K:PySem.W.Frag}{mg:Str→Option Value}{base:Heap}{k:Nat}{f:Addr}{name qual:Str}{params:Arguments}{body:List Stmt}{scope:Scope}{dV kV doc pm cdv ct oc:Value}{an od:Option Addr}
  {osl:Array (Option Value)}{N ps:List Str}{sp:Sp} (lk:K.lookup f=some ⟨oc,od,.func (PySem.W.fnOf name qual params body scope dV kV doc pm an cdv ct),osl⟩) (hcd:PySem.W.codeIn K cdv qual=true) (S:FnScope N ps scope)
  (len:∀vs H Q E,sp vs H Q E→vs.length=ps.length)
  (hbody:∀(A:Around) (outer:List Env) (s:Shared) (H:Hp) (vs:List V) (Q:VK) (E:XK),Room k (A.deeper (envOfC qual scope s.heap.objs.size f cdv))→sp vs H Q E →
   ∃t,PSs (cxOf CX P w K mg base N qual scope f cdv A outer s H E) body t∧t { nx:=fun _ H'=>Q .non H',rt:=Q } (start N vs) H) :
  FnOk P w K mg base CX (k+1) f (PySem.W.fnOf name qual params body scope dV kV doc pm an cdv ct) ps sp:=by
 refine⟨len,fun A outer s H args us vs Q E hr e0 hb r hsp=>?_⟩
 have hl:=len _ _ _ _ hsp
 have KX:K.In s.heap:=e0.mod.kin.keeps fun b o e=>(e0.bs b o e).1
 have lim:s.heap.NoLimit:=e0.mod.nolimit.keeps fun b o e=>(e0.bs b o e).1
 have hkind:∀y∈ps.zip us,scope.names.lookup y.1=some .local∨(scope.names.lookup y.1=some .cell∧((cellsFrom (s.heap.objs.size+1) scope.names []).lookup y.1).isSome=true):=fun⟨n,v⟩ hy=>by
  rcases S.par n (List.of_mem_zip hy).1 with q|q
  ·exact .inl q
  ·exact .inr ⟨q,PySem.W.cellsFrom_some _ _ _ (.inl q)⟩
 refine codeAny_call_function hr.depth (KX _ _ lk) rfl S.co S.gen rfl (PySem.W.codeRec_of KX hcd) (hb _ _ _ _ ?_)
 refine wpAny_newFunctionEnv_cells S.kind hkind fun env he s1 x=>?_
 subst he
 refine⟨lim.keeps x.toInCall.keep,codeAny_func ?_⟩
 obtain⟨t,ht,hq⟩:=hbody A outer s H vs Q E (hr.deeper _) hsp
 have I:Inv (cxOf CX P w K mg base N qual scope f cdv A outer s H E) [] (start N vs) H s1:=ϟt S hr.hd e0 hl r x
 refine wpAny_mono (ht [] s1 (start N vs) H _ I hq) (fun fl s' hs=>?_) fun e s' hs=>hs
 have fin:∀{σ':St}{H':Hp}{v:V}{u:Value},Inv (cxOf CX P w K mg base N qual scope f cdv A outer s H E) [] σ' H' s'→RelV v u→Q v H'→CE outer P w H s Q u s':=
  fun {σ' H' v u} J rv q=>⟨v,H',J.os,J.bare,J.base,J.hok,rv,q⟩
 cases fl with
 |ret u=>
  obtain⟨v,σ',H',J,rv,q⟩:=hs
  exact fin J rv q
 |next=>
  obtain⟨σ',H',J,q⟩:=hs
  exact fin (v:=V.non) (u:=Value.none) J rfl q
 |brk=>
  obtain⟨_,_,_,q⟩:=hs
  exact False.elim q
 |cont=>
  obtain⟨_,_,_,q⟩:=hs
  exact False.elim q
end L2
namespace L2
open PySem PySem.Spec PyProof.Rows
section
variable {X:Cx}{x:Str}{p pos:Pos}{e:Expr}{es:List Expr}{t:TA}{id T:String}{r:List V→Hp→VK→Prop}
def tCB (r:List V→Hp→VK→Prop) (t:TA):TE:=fun σ H Q=>t σ H fun vs H1=>r vs H1 Q
theorem ϖ8 (hc:ϱi X (.builtin id) r) (hg:Gl X x) (hm:X.mg x=none) (hv:bootBuiltins x=some (.builtin id)) (ha:PA X (e::es) t) (hn:x≠"__name__":=by decide) (hdb:(x == ("__debug__":Str))=false:=by decide)
  (he:starEach (e::es) X.env=(false,eval e X.env)::starEach es X.env:=by rfl) (hpl:(backTo pos (starEach es X.env)).any (·.1)=false:=by rfl):PE X (.Call (.Name x p) (e::es) [] pos) (tCB r t):=by
 intro pins s σ H Q I h
 refine wpAny_Call_Name_kw (ϱK I hg hm hv ?_ hn hdb)
 exact PyProof.Rows.callWith_builtin1 (thn (ha pos pins s σ H _ I h) fun us s1 ⟨vs,H1,I1,r1,q1⟩=>hc pins s1 σ H1 vs us Q I1 r1 q1) he hpl
theorem ϰr (hc:ϱi X (.type T) r) (hg:Gl X x) (hm:X.mg x=none) (hv:bootBuiltins x=some (.type T)) (ha:PA X (e::es) t) (hn:x≠"__name__":=by decide) (hdb:(x == ("__debug__":Str))=false:=by decide)
  (he:starEach (e::es) X.env=(false,eval e X.env)::starEach es X.env:=by rfl) (hpl:(backTo pos (starEach es X.env)).any (·.1)=false:=by rfl):PE X (.Call (.Name x p) (e::es) [] pos) (tCB r t):=by
 intro pins s σ H Q I h
 refine wpAny_Call_Name_kw (ϱK I hg hm hv ?_ hn hdb)
 exact PyProof.Rows.callWith_type1 (thn (ha pos pins s σ H _ I h) fun us s1 ⟨vs,H1,I1,r1,q1⟩=>hc pins s1 σ H1 vs us Q I1 r1 q1) he hpl
end
end L2
namespace HT
open PySem PyProof.Rows
def lexLt:List Int→List Int→Bool
 |[],[]=>false
 |[],_::_=>true
 |_::_,[]=>false
 |x::xs,y::ys=>if x=y then lexLt xs ys else decide (x < y)
section
open PySem.SeqAt
open PySem.AutoSeq1 (wpAny_loadPart')
open PySem.MeetsSeq PySem.MeetsSeq2 PySem.MeetsSeq3
end
section
variable {prog:Program}{w:World}{A:Around}{E:Value→Shared→Prop}{s:Shared}
def sIx (n d:Nat):Option Int→Nat
 |none=>d
 |some v=>if v < 0 then (v+(n:Int)).toNat else min v.toNat n
theorem sIx_none (n d:Nat):sIx n d none=d:=rfl
theorem sIx_nat (n d k:Nat):sIx n d (some (k:Int))=min k n:=by
 show(if (k:Int) < 0 then ((k:Int)+(n:Int)).toNat else min (k:Int).toNat n)=min k n
 rw[if_neg (by omega),Int.toNat_natCast]
theorem sIx_le (n d:Nat) (hd:d≤n) (o:Option Int):sIx n d o≤n:=by
 cases o with
 |none=>exact hd
 |some v=>
  show(if v < 0 then (v+(n:Int)).toNat else min v.toNat n)≤n
  by_cases hv:v < 0
  ·rw[if_pos hv];omega
  ·rw[if_neg hv];exact Nat.min_le_right _ _
end
end HT
namespace L2
open PySem PySem.Spec PyProof.Rows
abbrev TO:=St→Hp→(Option Int→Hp→Prop)→Prop
def PO (X:Cx) (e:Option Expr) (t:TO):Prop:=
 ∀(pins:List (Addr×Obj)) (s:Shared) (σ:St) (H:Hp) (Q:Option Int→Hp→Prop),Inv X pins σ H s→t σ H Q →
  wpAny (model X.prog X.w) X.A (evalPart e X.env) (fun u s'=>∃o H',Inv X pins σ H' s'∧IsPart u o∧Q o H') X.xe s
def ϛV:TO:=fun _ H Q=>Q none H
def tPart (t:TE):TO:=fun σ H Q=>t σ H fun x H1=>∃i,x=.int i∧Q (some i) H1
section
variable {X:Cx}{e:Expr}{te:TE}{lo hi:Option Expr}{tl th:TO}{pos p2:Pos}
theorem ϕS:PO X none ϛV:=by
 intro pins s σ H Q I h
 rw[evalPart_none]
 exact wpAny_pure ⟨none,H,I,.none,h⟩
theorem ϕo (h:PE X e te):PO X (some e) (tPart te):=by
 intro pins s σ H Q I hw
 rw[evalPart_some]
 refine thn (h pins s σ H _ I hw) fun u s1 ⟨x,H1,I1,r1,q1⟩=>?_
 obtain⟨i,rfl,q⟩:=q1
 obtain⟨t,rfl⟩:=r1
 exact⟨some i,H1,I1,.int i t,q⟩
def SlR (X:Cx) (r:V→Option Int→Option Int→Hp→VK→Prop):Prop:=
 ∀(pins:List (Addr×Obj)) (s:Shared) (σ:St) (H:Hp) (x:V) (v vl vu:Value) (lo hi:Option Int) (sl:Addr) (Q:VK),Inv X pins σ H s→RelV x v→s.heap.IsSliceOf sl vl vu .none→IsPart vl lo→IsPart vu hi→r x lo hi H Q →
  ∃T id,typeLookup (.type T) "__getitem__"=pure (some (.builtin id))∧s.TypeIs v T∧wpAny (model X.prog X.w) X.A (getItem v (.ref sl)) (EP X pins σ Q) X.xe s
def tSl (r:V→Option Int→Option Int→Hp→VK→Prop) (te:TE) (tl th:TO):TE:=fun σ H Q=>te σ H fun x H1=>tl σ H1 fun l H2=>th σ H2 fun u H3=>r x l u H3 Q
theorem ϕk {r:V→Option Int→Option Int→Hp→VK→Prop} (hr:SlR X r) (he:PE X e te) (hl:PO X lo tl) (hu:PO X hi th):PE X (.Subscript e (.Slice lo hi none p2) pos) (tSl r te tl th):=by
 intro pins s σ H Q I h
 refine Subscript_ (thn (he pins s σ H _ I h) fun v s1 ⟨x,H1,I1,r1,q1⟩=>?_)
 refine wpAny_Slice (thn (hl pins s1 σ H1 _ I1 q1) fun vl s2 ⟨l,H2,I2,pl,q2⟩=>thn (hu pins s2 σ H2 _ I2 q2) fun vu s3 ⟨u,H3,I3,pu,q3⟩=>?_)
 rw[evalPart_none]
 refine wpAny_pure ?_
 have I4:Inv X pins σ H3 { s3 with heap:=s3.heap.push { cls:=.type "slice",data:=.fields #[vl,vu,.none] } }:=I3.kept (t':=s3.toks) fun b ob q=>Heap.get?_push_of_some _ q
 obtain⟨T,id,hT,ht,hg⟩:=hr pins { s3 with heap:=s3.heap.push { cls:=.type "slice",data:=.fields #[vl,vu,.none] } } σ H3 x v vl vu l u s3.heap.objs.size Q I4 r1 (Heap.IsSliceOf.new ..) pl pu q3
 show wpAny (model X.prog X.w) X.A (subscriptTail e (.Slice lo hi none p2) v (.ref s3.heap.objs.size)) (EP X pins σ Q) X.xe { s3 with heap:=s3.heap.push { cls:=.type "slice",data:=.fields #[vl,vu,.none] } }
 exact tail_any (ops:=[.ref s3.heap.objs.size,v]) ht hT hg (by with_unfolding_all rfl)
def cutV (xs:List V) (lo hi:Option Int):List V:=(xs.drop (HT.sIx xs.length 0 lo)).take (HT.sIx xs.length xs.length hi-HT.sIx xs.length 0 lo)
theorem ϲF (xs:List V) (lo hi:Option Int):(cutV xs lo hi).length≤xs.length:=by
 unfold cutV
 rw[List.length_take,List.length_drop]
 omega
end
end L2
namespace L2
open PySem PySem.Spec PyProof.Rows
def ixN (n:Nat) (i:Int):Option Nat:=if 0≤i then (if i < n then some i.toNat else none) else if -(n:Int)≤i then some (i+n).toNat else none
def atI {α:Type} (xs:List α) (i:Int):Option α:=(ixN xs.length i).bind fun j=>xs[j]?
theorem ϟR {n:Nat}{i:Int}{j:Nat} (h:ixN n i=some j):seqIndex? i n=some j∧j < n∧-(n:Int)≤i∧i < n:=by
 unfold ixN at h
 by_cases h0:0≤i
 ·rw[if_pos h0] at h
  by_cases h1:i < n
  ·rw[if_pos h1] at h
   have e:i.toNat=j:=Option.some.inj h
   exact⟨by rw[seqIndex_of h0 h1,e],by omega,by omega,h1⟩
  ·rw[if_neg h1] at h;cases h
 ·rw[if_neg h0] at h
  by_cases h1:-(n:Int)≤i
  ·rw[if_pos h1] at h
   have e:(i+n).toNat=j:=Option.some.inj h
   exact⟨by rw[seqIndex_neg (by omega) h1,e],by omega,h1,by omega⟩
  ·rw[if_neg h1] at h;cases h
theorem ϲL {α:Type}{xs:List α}{i:Int}{v:α} (h:atI xs i=some v):∃j,seqIndex? i xs.length=some j∧xs[j]?=some v∧j < xs.length∧-(xs.length:Int)≤i∧i < xs.length:=by
 unfold atI at h
 cases e:ixN xs.length i with
 |none=>rw[e] at h;cases h
 |some j=>
  rw[e] at h
  obtain⟨h1,h2,h3,h4⟩:=ϟR e
  exact⟨j,h1,h,h2,h3,h4⟩
theorem ϖQ {α:Type}{xs:List α}{j:Nat}{v:α} (h:xs[j]?=some v):atI xs (j:Int)=some v:=by
 have hj:j < xs.length:=(List.getElem?_eq_some_iff.mp h).1
 have e:ixN xs.length (j:Int)=some j:=by
  unfold ixN
  rw[if_pos (by omega),if_pos (by omega)];simp
 unfold atI;rw[e];exact h
def ϛk (b:Expr):Prop:=∀o i,subscripted b false o i=operate [o,i] (getItem o i)
def IxR (X:Cx) (r:R2):Prop:=
 ∀(value slice:Expr) (pins:List (Addr×Obj)) (s:Shared) (σ:St) (H:Hp) (x y:V) (v u:Value) (Q:VK),Inv X pins σ H s→RelV x v→RelV y u→r x y H Q →
  subscripted slice false v u=operate [v,u] (getItem v u)→wpAny (model X.prog X.w) X.A (subscriptTail value slice v u) (EP X pins σ Q) X.xe s
def MtR (X:Cx) (id:String) (r:V→List V→Hp→VK→Prop):Prop:=
 ∀(pins:List (Addr×Obj)) (s:Shared) (σ:St) (H:Hp) (x:V) (xs:List V) (v:Value) (us:List Value) (Q:VK),Inv X pins σ H s→RelV x v→Vals xs us→r x xs H Q →
  wpAny (model X.prog X.w) X.A (call (.builtin id) (v::us)) (EP X pins σ Q) X.xe s
section
variable {X:Cx}{a b:Expr}{ta tb:TE}{pos:Pos}
theorem ϖo {r:R2} (hr:IxR X r) (ha:PE X a ta) (hb:PE X b tb) (hs:ϛk b):PE X (.Subscript a b pos) (tOp r ta tb):=by
 intro pins s σ H Q I h
 exact Subscript_ (binT ha hb I h fun v u s2 x y H2 I2 rx ry q=>hr a b pins s2 σ H2 x y v u Q I2 rx ry q (hs _ _))
def rIxL (K:PySem.W.Frag):R2:=fun x y H Q=>∃p xs i v,x=.ref p∧y=.int i∧SqL K H p xs∧atI xs i=some v∧Q v H
def rIxT (K:PySem.W.Frag):R2:=fun x y H Q=>∃p xs i v,x=.ref p∧y=.int i∧SqT K H p xs∧atI xs i=some v∧Q v H
def rIxS:R2:=fun x y H Q=>∃z i c,x=.str z∧y=.int i∧z.length≤sizeLine∧atI z.cps.toList i=some c∧Q (.str ⟨#[c]⟩) H
theorem ϖD:IxR X (rIxL X.K):=by
 intro value slice pins s σ H x y v u Q I rx ry h hs
 obtain⟨p,xs,i,z,rfl,rfl,hq,he,q⟩:=h
 cases rx
 obtain⟨t,rfl⟩:=ry
 obtain⟨its,r,pl,hz⟩:=I.list hq
 obtain⟨j,h1,h2,h3,h4,h5⟩:=ϲL he
 obtain⟨w,ew,rw'⟩:=r.get h2
 have hl:=r.length
 have hn:=ϵd
 have fin:EP X pins σ Q w s:=⟨z,H,I,rw',q⟩
 by_cases h0:0≤i
 ·have hj:i.toNat=j:=by
   rw[seqIndex_of h0 h5] at h1
   exact Option.some.inj h1
  exact item_listR pl.isList h0 (by omega) (by rw[hj];simpa using ew) fin hs
 ·have hj:(i+(its.toArray.size:Int)).toNat=j:=by
   rw[seqIndex_neg (by omega) h4] at h1
   rw[List.size_toArray,← hl]
   exact Option.some.inj h1
  exact subscriptTail_builtinR (x:=w) pl.isList.typeIs slot_list_getitem.lookup
   (wpAny_getItem_list_neg (Q:=fun r s'=>r=w∧EP X pins σ Q r s') pl.isList (by omega) (by rw[List.size_toArray]<;>omega) (by omega) (by rw[hj];simpa using ew) ⟨rfl,fin⟩) hs
theorem ϖl:IxR X (rIxT X.K):=by
 intro value slice pins s σ H x y v u Q I rx ry h hs
 obtain⟨p,xs,i,z,rfl,rfl,hq,he,q⟩:=h
 cases rx
 obtain⟨t,rfl⟩:=ry
 obtain⟨its,r,pl,hz⟩:=I.tuple hq
 obtain⟨j,h1,h2,h3,h4,h5⟩:=ϲL he
 obtain⟨w,ew,rw'⟩:=r.get h2
 have hl:=r.length
 have hn:=ϵd
 have fin:EP X pins σ Q w s:=⟨z,H,I,rw',q⟩
 exact subscriptTail_builtinR (x:=w) pl.typeIs slot_tuple_getitem.lookup
  (getItem_tuple (j:=j) (Q:=fun r s'=>r=w∧EP X pins σ Q r s') pl (by omega) (by omega) (by rw[List.size_toArray,← hl];exact h1) (by simpa using ew) ⟨rfl,fin⟩) hs
theorem ϵh:IxR X rIxS:=by
 intro value slice pins s σ H x y v u Q I rx ry h hs
 obtain⟨z,i,c,rfl,rfl,hz,he,q⟩:=h
 obtain⟨t,rfl⟩:=rx
 obtain⟨t',rfl⟩:=ry
 obtain⟨j,h1,h2,h3,h4,h5⟩:=ϲL he
 have hl:z.cps.toList.length=z.length:=by simp[Str.length]
 rw[hl] at h1 h4 h5
 have hn:=ϵd
 exact tail_any (typeIs_str s z t) slot_str_getitem.lookup (getItem_str (c:=c) (by
  have e1:decide (i < -(2 ^ 63:Int))=false:=decide_eq_false (by omega)
  have e2:decide (i≥2 ^ 63)=false:=decide_eq_false (by omega)
  rw[e1,e2,Bool.or_false]) (by rw[h1];simpa using h2) ⟨.str ⟨#[c]⟩,H,I.tok _,⟨_,rfl⟩,q⟩) hs
theorem ϡy (its:List Value) (n j:Nat) (u:Value):Obj.mapSeq (·.setIfInBounds j u) { cls:=.type "list",data:=.seq its.toArray n }={ cls:=.type "list",data:=.seq (its.set j u).toArray n }:=by
 simp[Obj.mapSeq]
theorem Inv.lst {pins:List (Addr×Obj)}{σ:St}{H:Hp}{s:Shared}{p:Addr}{xs:List V} (I:Inv X pins σ H s) (h:H p=some (.lst xs)) :
  ∃(its:List Value) (n:Nat),Vals xs its∧s.heap.get? p=some { cls:=.type "list",data:=.seq its.toArray n }∧xs.length≤sizeLine:=by
 obtain⟨z,its,n,r,e⟩:=I.hok p _ h
 exact⟨its,n,r,e,z⟩
theorem Inv.lstUpd {pins:List (Addr×Obj)}{σ:St}{H:Hp}{s:Shared}{p:Addr}{xs ys:List V}{its its':List Value}{n n':Nat}{f:Obj→Obj} (I:Inv X pins σ H s) (h:H p=some (.lst xs))
  (ho:s.heap.get? p=some { cls:=.type "list",data:=.seq its.toArray n }) (hf:f { cls:=.type "list",data:=.seq its.toArray n }={ cls:=.type "list",data:=.seq its'.toArray n' }) (r:Vals ys its') (hz:ys.length≤sizeLine) (t:Nat) :
  Inv X pins σ (upd H p (.lst ys)) { s with heap:=s.heap.update p f,toks:=t }:=by
 have e:(s.heap.update p f).get? p=some { cls:=.type "list",data:=.seq its'.toArray n' }:=by
  rw[Heap.get?_update_self f ho (by rw[hf]<;>rfl),hf]
 refine I.write (x:=p) (e:=p) (by rw[h];trivial) (.inl rfl) (fun b u hb q=>(Heap.get?_update_other _ _ (Ne.symm hb)).trans q) ⟨_,e⟩ ?_
 exact⟨hz,its',n',r,e⟩
def rSetL:V→V→V→Hp→(Hp→Prop)→Prop:=fun o i v H Q=>∃p xs k j,o=.ref p∧i=.int k∧H p=some (.lst xs)∧ixN xs.length k=some j∧Q (upd H p (.lst (xs.set j v)))
theorem ϝt:PSet X rSetL:=by
 intro pins s σ H o i v ov iv u Q I ro ri rv h
 obtain⟨p,xs,k,j,rfl,rfl,hp,hj,q⟩:=h
 cases ro
 obtain⟨t,rfl⟩:=ri
 obtain⟨its,n,r,ho,hz⟩:=I.lst hp
 obtain⟨h1,h2,h3,h4⟩:=ϟR hj
 have hl:=r.length
 have hn:=ϵd
 have I':Inv X pins σ (upd H p (.lst (xs.set j v))) { s with heap:=s.heap.update p (Obj.mapSeq (·.setIfInBounds j u)) }:=
  I.lstUpd hp ho (ϡy its n j u) (r.set rv j) (by rw[List.length_set];exact hz) s.toks
 by_cases h0:0≤k
 ·have hk:k.toNat=j:=by
   rw[seqIndex_of h0 h4] at h1
   exact Option.some.inj h1
  exact PySem.W.ki_setAt ho h0 (by omega) (by rw[List.size_toArray,← hl];exact h4) (by rw[hk];exact⟨_,I',q⟩)
 ·have hk:(k+(its.toArray.size:Int)).toNat=j:=by
   rw[seqIndex_neg (by omega) h3] at h1
   rw[List.size_toArray,← hl]
   exact Option.some.inj h1
  exact PySem.W.ki_setBack ho (by omega) (by rw[List.size_toArray,← hl];exact h3) (by omega) (by rw[hk];exact⟨_,I',q⟩)
theorem ϱj (lo hi:Option Int) (n:Nat):(sliceBounds lo hi none n).1=((HT.sIx n 0 lo:Nat):Int)∧(sliceBounds lo hi none n).2.1=((HT.sIx n n hi:Nat):Int)∧(sliceBounds lo hi none n).2.2=1:=by
 refine⟨?_,?_,rfl⟩
 ·cases lo with
  |none=>simp[sliceBounds,HT.sIx]
  |some i=>
   simp only[sliceBounds,HT.sIx,Option.getD_none,show(1:Int) > 0 by decide,if_true]
   by_cases h:i < 0
   ·simp only[h,if_true]<;>omega
   ·simp only[h,if_false]<;>omega
 ·cases hi with
  |none=>simp[sliceBounds,HT.sIx]
  |some i=>
   simp only[sliceBounds,HT.sIx,Option.getD_none,show(1:Int) > 0 by decide,if_true]
   by_cases h:i < 0
   ·simp only[h,if_true]<;>omega
   ·simp only[h,if_false]<;>omega
theorem ϵG (its:List Value) (lo hi:Option Int):slicePick its.toArray lo hi none=((its.drop (HT.sIx its.length 0 lo)).take (HT.sIx its.length its.length hi-HT.sIx its.length 0 lo)).toArray:=by
 obtain⟨h1,h2,h3⟩:=ϱj lo hi its.toArray.size
 unfold slicePick
 rw[h1,h2,h3]
 simp only[sliceRange_one,pick_run,List.size_toArray]<;>rfl
def rSlL (K:PySem.W.Frag):V→Option Int→Option Int→Hp→VK→Prop:=fun x lo hi H Q=>∃a xs,x=.ref a∧SqL K H a xs∧∀p,H p=none→Q (.ref p) (upd H p (.lst (cutV xs lo hi)))
theorem ϟc:SlR X (rSlL X.K):=by
 intro pins s σ H x v vl vu lo hi sl Q I rx hs pl pu h
 obtain⟨a,xs,rfl,hx,q⟩:=h
 cases rx
 obtain⟨its,r,ht,hz⟩:=I.list hx
 have hlen:=r.length
 refine⟨"list",_,slot_list_getitem.lookup,ht.isList.typeIs,?_⟩
 refine wpAny_getItem_list_slice ht.isList hs pl pu .none (by simp) ?_ (by rw[List.size_toArray]<;>omega)
 rw[ϵG,← hlen]
 refine⟨.ref s.heap.objs.size,_,I.laid (t':=s.toks) (o:=.lst (cutV xs lo hi)) (fun b ob q=>Heap.get?_push_of_some _ q) (Nat.le_refl _) ?_,rfl,q _ (I.hok.fresh (Nat.le_refl _))⟩
 exact⟨Nat.le_trans (ϲF xs lo hi) hz,_,0,(r.drop (HT.sIx xs.length 0 lo)).take (HT.sIx xs.length xs.length hi-HT.sIx xs.length 0 lo),Heap.get?_push_size _ rfl⟩
theorem ϲa:ϱi X (.builtin "len") (fun xs H Q=>∃p ys,xs=[.ref p]∧(SqL X.K H p ys∨SqT X.K H p ys)∧Q (.int ys.length) H):=by
 intro pins s σ H xs us Q I r h
 obtain⟨p,ys,rfl,hq,q⟩:=h
 obtain⟨u,rfl,rx⟩:=ϲU r
 cases rx
 have hn:=ϵd
 rcases hq with hq|hq
 ·obtain⟨its,r',pl,hz⟩:=I.list hq
  have hlen:=r'.length
  exact Calls.call_len_list pl.isList (by simp only[List.size_toArray]<;>omega) ⟨.int ys.length,H,I.tok _,⟨s.toks+1,by rw[List.size_toArray,hlen]⟩,q⟩
 ·obtain⟨its,r',pl,hz⟩:=I.tuple hq
  have hlen:=r'.length
  exact len_tuple pl (by simp only[List.size_toArray]<;>omega) ⟨.int ys.length,H,I.tok _,⟨s.toks+1,by rw[List.size_toArray,hlen]⟩,q⟩
theorem ϑp:ϱi X (.builtin "len") (fun xs H Q=>∃z,xs=[.str z]∧z.length≤sizeLine∧Q (.int z.length) H):=by
 intro pins s σ H xs us Q I r h
 obtain⟨z,rfl,hz,q⟩:=h
 obtain⟨u,rfl,t,rfl⟩:=ϲU r
 have hn:=ϵd
 exact len_str (by omega) ⟨.int z.length,H,I.tok _,⟨_,rfl⟩,q⟩
theorem ϰq:ϱi X (.type "list") (fun xs H Q=>∃p ys,xs=[.ref p]∧(SqL X.K H p ys∨SqT X.K H p ys)∧∀l,H l=none→Q (.ref l) (upd H l (.lst ys))):=by
 intro pins s σ H xs us Q I r h
 obtain⟨p,ys,rfl,hq,q⟩:=h
 obtain⟨u,rfl,rx⟩:=ϲU r
 cases rx
 have fin:∀(its:List Value),Vals ys its→ys.length≤sizeLine→∀(h':Heap) (c':Nat),(∀ b o',s.heap.get? b=some o'→h'.get? b=some o') →
   h'.get? s.heap.objs.size=some { cls:=.type "list",dict:=none,data:=.seq its.toArray c',slots:=#[] }→EP X pins σ Q (.ref s.heap.objs.size) { s with heap:=h' }:=fun its r' hz h' c' kp e=>
  ⟨.ref s.heap.objs.size,_,I.laid (t':=s.toks) kp (Nat.le_refl _) (show ObjOk X.prog X.w _ h' _ (.lst ys) from ⟨hz,its,c',r',e⟩),rfl,q _ (I.hok.fresh (Nat.le_refl _))⟩
 rcases hq with hq|hq
 ·obtain⟨its,r',pl,hz⟩:=I.list hq
  have hlen:=r'.length
  obtain⟨o,ho,hc,n,hd⟩:=pl.isList
  exact call_list_seq p (.inl rfl) ho hc hd (fun h' c' kp e=>fin its r' hz h' c' kp e) (by simp only[List.size_toArray]<;>omega)
 ·obtain⟨its,r',pl,hz⟩:=I.tuple hq
  have hlen:=r'.length
  obtain⟨o,ho,hc,n,hd⟩:=pl
  exact call_list_seq p (.inr rfl) ho hc hd (fun h' c' kp e=>fin its r' hz h' c' kp e) (by simp only[List.size_toArray]<;>omega)
def tyV (K:PySem.W.Frag) (T:String) (x:V) (H:Hp):Prop:=match x with
 |.str _=>T="str"
 |.int _=>T="int"
 |.ref p=>(T="list"∧∃xs,SqL K H p xs)∨(T="tuple"∧∃o,K.lookup p=some o∧o.cls=.type "tuple"∧o.dict=none) ∨
   (T="dict"∧((∃ kvs,H p=some (.dK kvs))∨∃kvs,H p=some (.dT kvs)))∨(T="set"∧∃S n,H p=some (.set S n))
 |_=>False
theorem tyV_is {pins:List (Addr×Obj)}{σ:St}{H:Hp}{s:Shared}{T:String}{x:V}{v:Value} (I:Inv X pins σ H s) (r:RelV x v) (ty:tyV X.K T x H) :
  s.TypeIs v T∧∀a,v=.ref a→∃ob,s.heap.get? a=some ob∧ob.dict=none:=by
 cases x with
 |str z=>
  obtain⟨t,rfl⟩:=r
  cases (show T="str" from ty)
  exact⟨typeIs_str s z t,fun _ e=>nomatch e⟩
 |int i=>
  obtain⟨t,rfl⟩:=r
  cases (show T="int" from ty)
  exact⟨typeIs_int s i t,fun _ e=>nomatch e⟩
 |ref p=>
  cases r
  rcases ty with⟨rfl,xs,hq⟩|⟨rfl,o,hk,hc,hd⟩|⟨rfl,hk⟩|⟨rfl,S,n,hk⟩
  ·obtain⟨its,_,pl,_⟩:=I.list hq
   refine⟨pl.isList.typeIs,fun a e=>?_⟩
   cases e
   obtain⟨o,n,e,c,hd,_⟩:=pl
   exact⟨o,e,hd⟩
  ·refine⟨⟨o,I.kIn p o hk,hc⟩,fun a e=>?_⟩
   cases e
   exact⟨o,I.kIn _ o hk,hd⟩
  ·have z:∃o,s.heap.get? p=some o∧o.ExactDict:=by
    rcases hk with⟨kvs,hk⟩|⟨kvs,hk⟩
    ·obtain⟨_,_,_,_,o,_,_,e,ex,_⟩:=I.hok p _ hk
     exact⟨o,e,ex⟩
    ·obtain⟨_,_,_,_,o,_,_,e,ex,_⟩:=I.hok p _ hk
     exact⟨o,e,ex⟩
   obtain⟨o,e,ex⟩:=z
   refine⟨⟨o,e,ex.1⟩,fun a e2=>?_⟩
   cases e2
   exact⟨o,e,ex.2.1⟩
  ·obtain⟨o,_,_,_,e,ex,_⟩:=I.hok p _ hk
   refine⟨⟨o,e,ex.1⟩,fun a e2=>?_⟩
   cases e2
   exact⟨o,e,ex.2.1⟩
 |_=>exact False.elim ty
def tBM (K:PySem.W.Frag) (T:String) (r:V→List V→Hp→VK→Prop) (to:TE) (t:TA):TE:=fun σ H Q=>to σ H fun x H1=>tyV K T x H1∧t σ H1 fun xs H2=>r x xs H2 Q
variable {o e:Expr}{es:List Expr}{to:TE}{t:TA}{name:Str}{apos cpos:Pos}{T id:String}{r:V→List V→Hp→VK→Prop}
theorem ϕv (pa:PlainAttrs T) (slot:Slot T name id) (hty:typeOf (.builtin id)=pure (.type "method_descriptor")) (hm:MtR X id r) (ho:PE X o to) (ha:PA X (e::es) t)
  (hbase:attributeBase o name X.env (eval o X.env)=eval o X.env:=by rfl)
  (hfew:((backTo cpos (starEach (e::es) X.env)).all (fun x=>!x.1) && (backToKw cpos (keywordEach [] X.env)).all (fun x=>x.1.isSome)
   && decide ((e::es).length+([]:List Keyword).length+(if ([]:List Keyword).isEmpty then 0 else 1) < 30))=true:=by rfl)
  (hline:(apos.endLine == cpos.line)=true:=by rfl) (hs:starEach (e::es) X.env=(false,eval e X.env)::starEach es X.env:=by rfl) (hplain:(backTo cpos (starEach es X.env)).any (·.1)=false:=by rfl) :
  PE X (.Call (.Attribute o name apos) (e::es) [] cpos) (tBM X.K T r to t):=by
 intro pins s σ H Q I h
 refine wpAny_Call_method_late hbase hfew hline rfl (thn (ho pins s σ H _ I h) fun v s1 ⟨x,H1,I1,r1,ty,q1⟩=>?_)
 obtain⟨h1,h2⟩:=tyV_is I1 r1 ty
 refine⟨T,id,pa,slot,hty,h1,h2,?_⟩
 have hA:=ha cpos pins s1 σ H1 _ I1 q1
 rw[hs] at hA⊢
 refine Calls.callWith_builtin (by show(false || (backTo cpos (starEach es X.env)).any (·.1))=false;rw[hplain]<;>rfl) (Calls.evalArgs_plain ?_)
 exact thn hA fun us s2 ⟨vs,H2,I2,r2,q2⟩=>hm pins s2 σ H2 x vs v us Q I2 r1 r2 q2
end
end L2
namespace L2
open PySem PySem.Spec PyProof.Rows
def MtM (X:Cx) (id:String) (r:V→List V→Hp→VK→Prop):Prop:=
 ∀(pins:List (Addr×Obj)) (s:Shared) (σ:St) (H:Hp) (x:V) (xs:List V) (v:Value) (us:List Value) (Q:VK),Inv X pins σ H s→RelV x v→Vals xs us→r x xs H Q →
  wpAny (model X.prog X.w) X.A (call (.builtin id) (v::us)) (EP X pins σ Q) X.xe s
theorem Vals.one:∀{x:V}{us:List Value},Vals [x] us→∃u,us=[u]∧RelV x u
 |_,_,.cons r .nil=>⟨_,rfl,r⟩
section
variable {X:Cx}{pins:List (Addr×Obj)}{σ:St}{H:Hp}{s:Shared}{l b:Addr}{xs ys zs:List V}
theorem Inv.lset {its its':List Value}{n:Nat}{f:Array Value→Array Value}{t':Nat} (I:Inv X pins σ H s) (hH:H l=some (.lst xs))
  (e:s.heap.get? l=some { cls:=.type "list",data:=.seq its.toArray n }) (hf:f its.toArray=its'.toArray) (hv:Vals ys its') (hz:ys.length≤sizeLine) :
  Inv X pins σ (upd H l (.lst ys)) { s with heap:=s.heap.update l (Obj.mapSeq f),toks:=t' }:=by
 have q:=PySem.IsL.update e f
 rw[hf] at q
 refine I.write (x:=l) (e:=l) (by rw[hH];exact trivial) (.inl rfl) (fun b' u hb hu=>(Heap.get?_update_other s.heap (Obj.mapSeq f) (Ne.symm hb)).trans hu) ⟨_,q⟩ ?_
 exact⟨hz,its',_,hv,q⟩
theorem Inv.lnew {its:List Value}{t':Nat} (I:Inv X pins σ H s) (hv:Vals ys its) (hz:ys.length≤sizeLine) :
  Inv X pins σ (upd H s.heap.objs.size (.lst ys)) { s with heap:=s.heap.push { cls:=.type "list",data:=.seq its.toArray },toks:=t' }:=
 I.laid (fun _ _ q=>Heap.get?_push_of_some _ q) (Nat.le_refl _) ⟨hz,its,0,hv,Heap.get?_push_size _ rfl⟩
theorem Inv.fresh (I:Inv X pins σ H s):H s.heap.objs.size=none:=I.hok.fresh (Nat.le_refl _)
theorem Inv.lstM (I:Inv X pins σ H s) (hH:H l=some (.lst xs)):xs.length≤sizeLine∧∃(its:List Value) (n:Nat),Vals xs its∧xs.length=its.length∧s.heap.get? l=some { cls:=.type "list",data:=.seq its.toArray n }:=by
 obtain⟨z,its,n,r,e⟩:=I.hok l _ hH
 exact⟨z,its,n,r,r.length,e⟩
theorem ϝH {n:Nat} (h:n≤sizeLine):Builtin.List.listTooLong n=false:=by
 unfold Builtin.List.listTooLong
 exact decide_eq_false (by omega)
end
section
variable {X:Cx}
def ϛu:V→List V→Hp→VK→Prop:=fun x vs H Q=>∃l xs y,x=.ref l∧vs=[y]∧H l=some (.lst xs)∧xs.length < sizeLine∧Q .non (upd H l (.lst (xs++[y])))
theorem ϑh:MtM X "list.append" ϛu:=by
 intro pins s σ H x vs v us Q I rx rv h
 obtain⟨l,xs,y,rfl,rfl,hH,hz,q⟩:=h
 cases rx
 obtain⟨u,rfl,ru⟩:=rv.one
 obtain⟨z,its,n,r,hl,e⟩:=I.lstM hH
 refine call_meets F.slot_list_append ⟨_,e,rfl⟩ F.entry_list_append (F.args_list_append_2 _ _) (PySem.list_append l its.toArray n u (by rw[List.size_toArray];omega)) ⟨e,?_⟩
 refine⟨.non,_,I.lset (its':=its++[u]) hH e (by simp) (r.append (.cons ru .nil)) ?_,rfl,q⟩
 rw[List.length_append,List.length_singleton]
 omega
def ϛO:V→List V→Hp→VK→Prop:=fun x vs H Q=>∃l b xs zs,x=.ref l∧vs=[.ref b]∧H l=some (.lst xs)∧H b=some (.lst zs)∧xs.length+zs.length≤sizeLine∧Q .non (upd H l (.lst (xs++zs)))
theorem ϟ5:MtM X "list.extend" ϛO:=by
 intro pins s σ H x vs v us Q I rx rv h
 obtain⟨l,b,xs,zs,rfl,rfl,hH,hB,hz,q⟩:=h
 cases rx
 obtain⟨u,rfl,ru⟩:=rv.one
 cases ru
 obtain⟨z,its,n,r,hl,e⟩:=I.lstM hH
 obtain⟨z2,its2,n2,r2,hl2,e2⟩:=I.lstM hB
 have hsz:its.toArray.size+its2.toArray.size≤sizeLine:=by rw[List.size_toArray,List.size_toArray];omega
 have hlong:¬ (!its.toArray.isEmpty && Builtin.List.listTooLong (its.toArray.size+its2.toArray.size))=true:=by
  rw[ϝH hsz,Bool.and_false]
  exact Bool.false_ne_true
 refine call_meets F.slot_list_extend ⟨_,e,rfl⟩ F.entry_list_extend (F.args_list_extend_2 _ _)
  (AutoSeq1.list_extend_list_list_0 l its.toArray n b its2.toArray n2 hlong (by rw[List.size_toArray];omega) (by omega)) ⟨e,e2,?_⟩
 refine⟨.non,_,I.lset (its':=its++its2) hH e (by simp) (r.append r2) ?_,rfl,q⟩
 rw[List.length_append]
 omega
def rCat:R2:=fun x y H Q=>∃l b xs zs,x=.ref l∧y=.ref b∧H l=some (.lst xs)∧H b=some (.lst zs)∧xs.length+zs.length≤sizeLine∧∀p,H p=none→Q (.ref p) (upd H p (.lst (xs++zs)))
theorem ϝS:OpR X (binaryOp .Add) rCat:=by
 intro pins s σ H x y v u Q I rx ry h
 obtain⟨l,b,xs,zs,rfl,rfl,hH,hB,hz,q⟩:=h
 cases rx
 cases ry
 obtain⟨z,its,n,r,hl,e⟩:=I.lstM hH
 obtain⟨z2,its2,n2,r2,hl2,e2⟩:=I.lstM hB
 refine PySem.P.add_list e e2 ?_ (by rw[List.size_toArray,List.size_toArray];omega)
 have ea:its.toArray++its2.toArray=(its++its2).toArray:=by simp
 rw[ea]
 exact⟨.ref _,_,I.lnew (t':=s.toks) (r.append r2) (by rw[List.length_append];omega),rfl,q _ I.fresh⟩
end
section
variable {prog:Program}{w:World}{A:Around}{E:Value→Shared→Prop}{s:Shared}
end
section
variable {X:Cx}
end
end L2
namespace Att
open PySem PySem.W PySem.Calls PyProof.Rows
theorem ϱL {P:Params}{h:Heap}:∀(ns:List Int) (vs:List Value),WellAll P h vs (ns.map WData.int)→IntsAre vs ns:=by
 intro ns
 induction ns with
 |nil=>
  intro vs w
  rw[List.map_nil] at w
  cases w
  exact .nil
 |cons n ns ih=>
  intro vs w
  rw[List.map_cons] at w
  cases w with
  |cons a b=>
   cases a
   exact .cons _ _ (ih _ b)
theorem ϡU {l:OpenLaw}{n:Nat} (hn:l.most=some n) {P:Params}{h:Heap}{args:List WData}{vals:List Value}
  (hpre:l.row.toRowW.claim.pre args=true) (hwl:WellAll P h vals args) :
  ∃a vs ns,vals=[Value.ref a]∧args=[WData.list (ns.map WData.int)]∧h.get? a=some { cls:=.type "list",data:=.seq vs.toArray }∧IntsAre vs ns∧ns.length≤n:=by
 have hsh:WShape.hasAll [] args [.list .int]=true:=(pre_splitW hpre).1
 have hc:l.pre.holds [] { args:=args }=true:=(pre_splitW hpre).2
 obtain⟨d,r,rfl,h1,h2⟩:=hasAllW_cons hsh
 obtain rfl:=hasAllW_nil h2
 obtain⟨xs,rfl,h3⟩:=hasW_list h1
 obtain⟨ns,rfl⟩:=items_int h3
 have hlen:ns.length≤n:=by
  unfold OpenLaw.pre at hc
  have h4:(WTm.not (.lt (.lit (.int (n:Int))) (.len (.arg 0)))).holds [] { args:=[.list (ns.map .int)] }=true:=by
   have h4:=(holds_andW hc).1
   rw[hn] at h4
   exact h4
  have h5:=condW_of h4 (w_not (w_lt w_lit (w_len_list (w_arg rfl))))
  rw[List.length_map] at h5
  refine Nat.le_of_not_lt fun q=>?_
  have q':(n:Int) < ((ns.length:Nat):Int):=by omega
  first
   |(rw[decide_eq_true q'] at h5;exact absurd h5 (by decide))
   |(simp at h5;omega)
 cases hwl with
 |cons w1 w2=>
  cases w2
  cases w1 with
  |list ho hall=>exact⟨_,_,ns,rfl,rfl,ho,ϱL ns _ hall,hlen⟩
theorem ϟx (l:OpenLaw) (args:List WData):l.row.toRowW.claim.post args (.bool true) args=true:=
 postW_of (r:=l.row.toRowW) (X:=(true == true))
  (show WShape.has [] (.bool true) .bool=true by first|rfl|decide|simp[WShape.has,WShape.arms,WShape.armsAll])
  (show(WTm.eq .res (.lit (.bool true))).value [] { args:=args,res:=some (.bool true),after:=args }=some (.bool (true == true)) from w_eq_bool (w_res rfl) w_lit) rfl
theorem attach_call {l:OpenLaw}{n:Nat}{q:Program}{loose:List Str}{XP:(Str→Option Value)→Heap→Prop}{YP:World→Heap→Prop}{d:DefRec}
  (hn:l.most=some n) (hdf:d.params.defaults=[])
  (call:∀(w:World) (s₀ s₁:Shared) (mg mb:Str→Option Value) (fa:Addr) (o:Obj) (pm cd doc:Value) (a:Addr) (vs:List Value) (ns:List Int),
   Ground q loose [] XP w s₀ mg mb s₁.heap→YP w s₁.heap →
   s₁.heap.get? fa=some o→o.data=.func (docDef d.name d.params d.body d.scope pm cd doc)→s₁.heap.CodeRec cd d.name→mg d.name=some (.ref fa) →
   s₁.heap.get? a=some { cls:=.type "list",data:=.seq vs.toArray }→IntsAre vs ns→ns.length≤n→s₁.gens=#[] →
   codeAny (model l.prog w) callerA (.call (.ref fa) ⟨[.ref a],[]⟩) (fun r s'=>r=.ok (.ret (.bool true))∧OldK s₁.heap s'.heap∧s'.os=s₁.os∧AllBare s'.gens) s₁) :
  WalkO q loose XP YP l.row.toRowW d [] (fun f vs=>PySem.call f vs):=by
 intro w s₀ s₁ mg mb G Y fa o pm cd doc dV kV ho hd hcd hD hmg hg args vals as hpre hlay hrd hwl hlo
 obtain rfl:dV=.none:=Dflts.none hD hdf
 obtain rfl:kV=.none:=Dflts.noKw hD
 obtain⟨a,vs,ns,rfl,rfl,hobj,hints,hlen⟩:=ϡU hn hpre hwl
 refine enter_call (codeAny_mono (call w s₀ s₁ mg mb fa o pm cd doc a vs ns G Y ho (fd_plain hd) hcd hmg hobj hints hlen hg) fun r s' hq=>?_)
 obtain⟨rfl,h2,h3,h4⟩:=hq
 exact⟨.inl ⟨.bool true,.bool true,[],rfl,fun _=>rfl,.bool true,ϟx l _,fun _=>⟨List.Pairwise.nil,fun _ hm=>(nomatch hm)⟩⟩,h2,h3,h4⟩
section
variable {prog:Program}{w:World}{A:Around}{E:Value→Shared→Prop}{s:Shared}{K:Frag}
def ledger (h:Heap) (L d:Addr):List (Addr×Obj):=(List.range h.objs.size).filterMap fun a=>if a=L∨a=d then none else (h.get? a).map fun o=>(a,o)
end
end Att
namespace L2
open PySem PySem.Spec PyProof.Rows
theorem ϱZ:∀{vs:List Value}{ns:List Int},IntsAre vs ns→Vals (ns.map V.int) vs
 |_,_,.nil=>.nil
 |_,_,.cons n t h=>.cons ⟨t,rfl⟩ (ϱZ h)
def Only (H:Hp):Prop:=∀b,H b=none∨∃o xs,H b=some (.frz o (.lst xs))
theorem ϝq {P:Program}{w:World}{K:PySem.W.Frag}{mg mb:Str→Option Value}{CX:CXT}{k:Nat}{fa a:Addr}{fd:FuncData}{x:Str}{sp:Sp}{s₁:Shared}{vs:List Value}{ns:List Int}
  (KX:K.In s₁.heap) (hns:s₁.heap.Ns mainGlobals mg) (hb:s₁.heap.Ns builtinsNs mb) (hbb:∀x:Str,x≠"__name__"→mb x=bootBuiltins x) (hlim:s₁.heap.NoLimit) (hg:s₁.gens=#[])
  (ha:s₁.heap.get? a=some { cls:=.type "list",data:=.seq vs.toArray }) (hi:IntsAre vs ns) (hl:ns.length≤sizeLine) (hr:Room k callerA)
  (F:∀base:Heap,K.In base→base.Ns mainGlobals mg→FnOk P w K mg base CX k fa fd [x] sp) (hbind:∀(s:Shared) (u:Value),BindsTo s fd ⟨[u],[]⟩ [(x,u)])
  (hsp:∀H:Hp,Only H→SqL K H a (ns.map V.int)→sp [.ref a] H (fun v _=>v=.bl true) fun _ _ _=>False)
  (hCX:∀H e s',CX [] H s₁ (fun _ _ _=>False) e s'→False) :
  codeAny (model P w) callerA (.call (.ref fa) ⟨[.ref a],[]⟩) (fun r s'=>r=.ok (.ret (.bool true))∧OldK s₁.heap s'.heap∧s'.os=s₁.os∧AllBare s'.gens) s₁:=by
 have rv:=ϱZ hi
 have lenV:=hi.length
 have core:∀H:Hp,Only H→SqL K H a (ns.map V.int)→HOk P w H s₁.heap→(∀ b,H b≠none→b=a)→(H a≠none→K.lookup a=none) →
   codeAny (model P w) callerA (.call (.ref fa) ⟨[.ref a],[]⟩) (fun r s'=>r=.ok (.ret (.bool true))∧OldK s₁.heap s'.heap∧s'.os=s₁.os∧AllBare s'.gens) s₁:=by
  intro H hO hS hok hA hK
  have base_of:∀{b:Addr}{o:Obj},s₁.heap.get? b=some o→H b=none→(hidT s₁.heap H).get? b=some o:=fun e n=>ϟ8 e n
  have noA:∀{b:Addr}{o:Obj}{es:Array DictEntry}{ep:Nat},s₁.heap.get? b=some o→o.data=.dict es ep→H b=none:=fun {b o es ep} e d=>by
   cases q:H b with
   |none=>rfl
   |some u=>
    have e':b=a:=hA b (by rw[q];simp)
    subst e'
    rw[ha] at e;cases e
    have d':Data.seq vs.toArray _=Data.dict es ep:=d
    cases d'
  have nsK:∀{b:Addr}{m:Str→Option Value},s₁.heap.Ns b m→(hidT s₁.heap H).Ns b m:=fun {b m} ⟨o,es,ep,e,d,r⟩=>⟨o,es,ep,base_of e (noA e d),d,r⟩
  have hKb:K.In (hidT s₁.heap H):=fun b o e=>base_of (KX b o e) (by
   cases q:H b with
   |none=>rfl
   |some u=>
    have e':b=a:=hA b (by rw[q];simp)
    subst e'
    rw[hK (by rw[q];simp)] at e;cases e)
  have hM:Mod K mg (hidT s₁.heap H):=⟨hKb,nsK hns,⟨mb,nsK hb,hbb⟩,let ⟨mc,h1,h2⟩:=hlim;⟨mc,nsK h1,h2⟩⟩
  have e0:Env0 P w K mg (hidT s₁.heap H) callerA [] s₁ H:=⟨rfl,hM,fun b o e=>ϛr e,Nat.le_of_eq (ϟf _ _),trivial,fun b hb=>absurd (show b∈([]:List Addr) from hb) (by simp),hok,.of_eq hg⟩
  refine codeAny_mono ((F _ hKb (nsK hns)).run callerA [] s₁ H ⟨[.ref a],[]⟩ [.ref a] [.ref a] _ _ hr e0 (hbind s₁ (.ref a)) (.cons rfl .nil) (hsp H hO hS)) fun r s' h=>?_
  cases r with
  |error e=>exact(hCX H e s' h).elim
  |ok fl=>
   cases fl with
   |next=>exact False.elim h
   |brk=>exact False.elim h
   |cont=>exact False.elim h
   |ret u=>
    obtain⟨v,H',os,bare,un,hok',r',q⟩:=h
    have q':v=.bl true:=q
    subst q'
    obtain rfl:u=Value.bool true:=r'
    refine⟨rfl,OldK.of_keep fun b o e=>?_,os,bare⟩
    cases q:H b with
    |none=>exact un.keep b o e q (by intro z;exact absurd (show b∈([]:List Addr) from z) (by simp)) (by simp)
    |some u=>
     rcases hO b with z|⟨ob,xs,z⟩
     ·rw[q] at z;cases z
     ·have z2:=un.frzs b ob _ z
      obtain⟨e1,_⟩:=hok b _ z
      obtain⟨e2,_⟩:=hok' b _ z2
      rw[e] at e1;cases e1
      exact e2
 cases hk:K.lookup a with
 |some o=>
  have e:=KX a o hk
  rw[ha] at e
  cases e
  refine core (fun _=>none) (fun _=>.inl rfl) (.inr ⟨_,vs.toArray,_,hk,rfl,rfl,rfl,by rw[List.size_toArray,lenV];exact hl,by simpa using rv⟩) (fun b u z=>by have z':(none:Option HO)=some u:=z;cases z') (fun b z=>absurd rfl z) fun z=>absurd rfl z
 |none=>
  refine core (fun b=>if b=a then some (.frz { cls:=.type "list",data:=.seq vs.toArray } (.lst (ns.map V.int))) else none) (fun b=>?_) (.inl (.inr ⟨{ cls:=.type "list",data:=.seq vs.toArray },if_pos rfl⟩)) (fun b u z=>?_) (fun b z=>?_) fun _=>hk
  ·by_cases hb:b=a
   ·exact .inr ⟨_,_,if_pos hb⟩
   ·exact .inl (if_neg hb)
  ·by_cases hb:b=a
   ·have z':=(if_pos hb).symm.trans z
    cases z'
    subst hb
    exact⟨ha,by rw[List.length_map];exact hl,vs,_,rv,ha⟩
   ·have z':=(if_neg hb).symm.trans z
    cases z'
  ·by_cases hb:b=a
   ·exact hb
   ·exact absurd (if_neg hb) z
end L2
namespace L2
open PySem PySem.Spec PyProof.Rows
abbrev KOf {K:PySem.W.Frag}{h:Heap} (_:K.In h):PySem.W.Frag:=K
theorem walk_of {l:PySem.W.OpenLaw}{n k:Nat}{q:Program}{loose:List Str}{XP:(Str→Option Value)→Heap→Prop}{YP:World→Heap→Prop}{d:DefRec}{K:Params→PySem.W.Frag}{CX:World→CXT}{sp:World→Sp}{x:Str}
  (hn:l.most=some n) (hn2:n≤sizeLine) (hdf:d.params.defaults=[]) (hr:Room k callerA)
  (hY:∀(w:World) (h:Heap),YP w h→(K w.params).In h)
  (F:∀(w:World) (mg:Str→Option Value) (fa:Addr) (h:Heap),(K w.params).In h→h.Ns mainGlobals mg→mg d.name=some (.ref fa) →
   ∃fd:FuncData,(∀ (s:Shared) (u:Value),BindsTo s fd ⟨[u],[]⟩ [(x,u)]) ∧
    ∀base:Heap,(K w.params).In base→base.Ns mainGlobals mg→FnOk l.prog w (K w.params) mg base (CX w) k fa fd [x] (sp w))
  (hsp:∀(w:World) (H:Hp) (a:Addr) (ns:List Int),ns.length≤n→Only H→SqL (K w.params) H a (ns.map V.int)→sp w [.ref a] H (fun v _=>v=.bl true) fun _ _ _=>False)
  (hCX:∀(w:World) (H:Hp) (s:Shared) (e:Value) (s':Shared),CX w [] H s (fun _ _ _=>False) e s'→False) :
  PySem.W.WalkO q loose XP YP l.row.toRowW d [] (fun f vs=>PySem.call f vs):=by
 refine Att.attach_call hn hdf fun w s₀ s₁ mg mb fa o pm cd doc a vs ns G Y ho hd hcd hmg hobj hints hlen hg=>?_
 have KX:=hY w _ Y
 obtain⟨fd,hb,hF⟩:=F w mg fa _ KX G.T.g hmg
 exact ϝq KX G.T.g G.T.b G.T.builtins G.T.nolimit hg hobj hints (Nat.le_trans hlen hn2) hr hF hb (fun H hO hS=>hsp w H a ns hlen hO hS) fun H e s'=>hCX w H s₁ e s'
end L2
namespace L2
open PySem PySem.Spec PyProof.Rows
def ϖB (s:Stmt):Arguments:=match s with
 |.FunctionDef _ a _ _ _ _ _ _ _ _=>a
 |_=>{ posonlyargs:=[],args:=[],vararg:=none,kwonlyargs:=[],kw_defaults:=[],kwarg:=none,defaults:=[] }
def ϖy (s:Stmt):List Stmt:=match s with
 |.FunctionDef _ _ b _ _ _ _ _ _ _=>b
 |_=>[]
def ϖj (s:Stmt):Scope:=match s with
 |.FunctionDef _ _ _ _ _ _ sc _ _ _=>sc
 |_=>{ kind:=.function,names:=[],isGenerator:=false,isCoroutine:=false }
abbrev CX0:CXT:=fun _ _ _ _ _ _=>False
abbrev E0:XK:=fun _ _ _=>False
theorem pass0 {X:Cx}:ϵ7 CX0 X E0:=fun _ _ _ _ _ _ _ h=>h.elim
structure Fun (K:PySem.W.Frag) (x qual:Str) (st:Stmt) (f:Addr) (fd:FuncData):Prop where
 ex:∃(oc:Value) (od:Option Addr) (kV doc pm:Value) (an:Option Addr) (cdv ct:Value) (osl:Array (Option Value)),
  fd=PySem.W.fnOf x qual (ϖB st) (ϖy st) (ϖj st) .none kV doc pm an cdv ct∧K.lookup f=some ⟨oc,od,.func fd,osl⟩∧PySem.W.codeIn K cdv qual=true
 kp:PySem.W.keepIn K (.ref f)=true
section
variable {P:Program}{w:World}{K:PySem.W.Frag}{mg:Str→Option Value}{base:Heap}
theorem Fun.ok {x qual:Str}{st:Stmt}{f:Addr}{fd:FuncData}{N ps:List Str}{k:Nat}{sp:Sp} (F:Fun K x qual st f fd) (S:FnScope N ps (ϖj st)) (len:∀vs H Q E,sp vs H Q E→vs.length=ps.length)
  (hbody:∀(cdv:Value) (A:Around) (outer:List Env) (s:Shared) (H:Hp) (vs:List V) (Q:VK) (E:XK),Room k (A.deeper (envOfC qual (ϖj st) s.heap.objs.size f cdv))→sp vs H Q E →
   ∃t,PSs (cxOf CX0 P w K mg base N qual (ϖj st) f cdv A outer s H E).nox (ϖy st) t∧t { nx:=fun _ H'=>Q .non H',rt:=Q } (start N vs) H):FnOk P w K mg base CX0 (k+1) f fd ps sp:=by
 obtain⟨oc,od,kV,doc,pm,an,cdv,ct,osl,rfl,lk,hcd⟩:=F.ex
 refine fn_of lk hcd S len fun A outer s H vs Q E hr hsp=>?_
 obtain⟨t,h,q⟩:=hbody cdv A outer s H vs Q E hr hsp
 exact⟨t,h.nox,q⟩
theorem Fun.binds {x qual:Str}{st:Stmt}{f:Addr}{fd:FuncData}{ps:List Str} (F:Fun K x qual st f fd)
  (h:∀(kV doc pm:Value) (an:Option Addr) (cdv ct:Value) (us:List Value),us.length=ps.length→bindArgs (PySem.W.fnOf x qual (ϖB st) (ϖy st) (ϖj st) .none kV doc pm an cdv ct) ⟨us,[]⟩=pure (ps.zip us)):Binds K fd ps []:=by
 obtain⟨oc,od,kV,doc,pm,an,cdv,ct,osl,rfl,lk,hcd⟩:=F.ex
 exact .all (h kV doc pm an cdv ct)
theorem ϖO {x qual:Str}{st:Stmt}{f:Addr}{oc:Value}{od an:Option Addr}{osl:Array (Option Value)}{kV doc pm cdv ct:Value} (l:K.lookup f=some ⟨oc,od,.func (PySem.W.fnOf x qual (ϖB st) (ϖy st) (ϖj st) .none kV doc pm an cdv ct),osl⟩)
  (c:PySem.W.codeIn K cdv qual=true) (k:PySem.W.keepIn K (.ref f)=true):Fun K x qual st f (PySem.W.fnOf x qual (ϖB st) (ϖy st) (ϖj st) .none kV doc pm an cdv ct):=⟨⟨oc,od,kV,doc,pm,an,cdv,ct,osl,rfl,l,c⟩,k⟩
end
theorem ϑN {A:Around}{k:Nat} (hr:Room k A):A.units+1 < cLine:=Nat.lt_of_le_of_lt (Nat.add_le_add_left (by decide:1≤64) _) hr.units
section
variable {X:Cx}
theorem pv (i:Nat) {x:Str}{pos:Pos} (hN:X.N[i]?=some x:=by rfl) (hv:Vis X.env.scope x:=by first|exact Or.inl rfl|exact Or.inr (Or.inl rfl)|exact Or.inr (Or.inr rfl)) (hd:(x == ("__debug__":Str))=false:=by decide)
  (hcd:(x == ("__classdict__":Str))=false:=by decide):PE X (.Name x pos) (tVar i):=pe_var hN hv hd hcd
end
theorem iteF {A B:Prop} (h:B):if false=true then A else B:=by
 rw[if_neg Bool.false_ne_true]
 exact h
theorem iteT {A B:Prop} (h:A):if true=true then A else B:=by
 rw[if_pos rfl]
 exact h
def Same (H H':Hp):Prop:=∀b o,H b=some o→H' b=some o
theorem Same.refl (H:Hp):Same H H:=fun _ _ h=>h
theorem Same.trans {H H1 H2:Hp} (a:Same H H1) (b:Same H1 H2):Same H H2:=fun c o h=>b c o (a c o h)
theorem Same.free {H H':Hp} (e:Same H H') {l:Addr} (h:H' l=Option.none):H l=Option.none:=by
 cases q:H l with
 |none=>rfl
 |some o=>
  rw[e l o q] at h
  cases h
theorem Same.seq {K:PySem.W.Frag}{H H':Hp}{a:Addr}{xs:List V} (e:Same H H') (h:SqL K H a xs):SqL K H' a xs:=by
 rcases h with (h|⟨o,h⟩)|h
 ·exact .inl (.inl (e _ _ h))
 ·exact .inl (.inr ⟨o,e _ _ h⟩)
 ·exact .inr h
end L2
namespace Hd
open PySem PySem.W PySem.Calls PyProof.Rows
def bt:Nat→Nat→Nat→List Obj→BT
 |0,_,_,_=>.nil
 |f+1,a,b,l=>match l[b]? with
  |none=>.nil
  |some o=>.node o (bt f (2*a) (a+b) l) (bt f (2*a) (2*a+b) l)
theorem ϟK:∀(f a b:Nat) (l:List Obj) (i:Nat),0 < a→i < f→(bt f a b l).get i=l[b+a*i]?
 |0,_,_,_,_,_,h=>absurd h (Nat.not_lt_zero _)
 |f+1,a,b,l,i,ha,hi=>by
  unfold bt
  cases e:l[b]? with
  |none=>
   have h1:l.length≤b:=List.getElem?_eq_none_iff.mp e
   have h2:b≤b+a*i:=Nat.le_add_right _ _
   rw[List.getElem?_eq_none (by omega)]
   rfl
  |some o=>
   show(BT.node o _ _).get i=_
   rw[BT.get_node]
   by_cases h0:i=0
   ·subst h0;rw[if_pos rfl,Nat.mul_zero,Nat.add_zero,e]
   ·rw[if_neg h0]
    by_cases h1:i % 2=1
    ·rw[if_pos h1,ϟK f (2*a) (a+b) l (i / 2) (by omega) (by omega)]
     congr 1
     have e2:i=2*(i / 2)+1:=by omega
     calc a+b+2*a*(i / 2)=b+a*(2*(i / 2)+1):=by rw[Nat.mul_add,Nat.mul_one,← Nat.mul_assoc,Nat.mul_comm a 2];omega
      _=b+a*i:=by rw[← e2]
    ·rw[if_neg h1,ϟK f (2*a) (2*a+b) l (i / 2-1) (by omega) (by omega)]
     congr 1
     have e2:i=2*((i / 2-1)+1):=by omega
     calc 2*a+b+2*a*(i / 2-1)=b+a*(2*((i / 2-1)+1)):=by rw[← Nat.mul_assoc,Nat.mul_comm a 2,Nat.mul_add,Nat.mul_one];omega
      _=b+a*i:=by rw[← e2]
def toT (n:Nat) (s:Shared):SharedT:=⟨bt n 1 0 s.heap.objs.toList,n,s.heap.life,s.gens,s.drawn,s.toks,s.os⟩
theorem ϛK {n:Nat}{s:Shared} (h:s.heap.objs.size=n):(toT n s).abs=s:=by
 obtain⟨⟨objs,life⟩,g,d,k,os⟩:=s
 have e:absHeap (bt n 1 0 objs.toList) n life=⟨objs,life⟩:=by
  have q:(absHeap (bt n 1 0 objs.toList) n life).objs=objs:=by
   apply Array.ext_getElem?
   intro i
   rw[absHeap_at]
   by_cases hi:i < n
   ·rw[if_pos hi,ϟK n 1 0 _ i (by decide) hi,Nat.zero_add,Nat.one_mul]
    have:i < objs.size:=by rw[h];exact hi
    simp[this]
   ·rw[if_neg hi]
    exact(Array.getElem?_eq_none (by rw[h];omega)).symm
  show Heap.mk (absHeap (bt n 1 0 objs.toList) n life).objs life=_
  rw[q]
 show Shared.mk (absHeap (bt n 1 0 objs.toList) n life) g d k os=_
 rw[e]
abbrev body (p:Program) (env:Env):Code:=.body (behindTheImports p) env
abbrev base (fp:Pos):List Frame:=[topFrame fp]
def look {α:Type} (p q:Program) (loose:List Str) (Xt:Shared→Bool) (Yf:Shared→α) (H₀:Heap) (s:Shared):=
 ((staticsOk (importedModules p.main.body) H₀ s.heap && namesBound p s.heap && gensDone s && laidKept H₀ s.heap),openSeen q loose (importedModules p.main.body) Xt true s,Yf s)
theorem left_of {p q:Program}{loose:List Str}{Xt:Shared→Bool}{α:Type}{Yf:Shared→α}{Ya:World→α}{N m₀ k1 k2 k3 k4 n₁:Nat}{ann:Option Value}{env:Env}{fp p1 p2 p3:Pos}
  (e0:opening p=plainProg p.main.scope.names) (hN:Nat.ble 600 N=true) (f0:∀s,fenceModules? p s=some s)
  (size:∀w:World,((boot_heap w.params).isNs mainGlobals && (Array.mk ([]:List GenState)).size == 0,(boot_heap w.params).objs.size,(boot_heap w.params).nsMap mainGlobals "__annotations__")=(true,m₀,ann))
  (le:Nat.ble (k1+(k2+(k3+k4))) N=true)
  (h:∀w:World,(fun os=>(topGo treeTable p w m₀ ann k1 ⟨boot_heap w.params,Array.mk [],boot_drawn,boot_toks,os⟩ (topStub p)).map fun r=>(r.2,
    (segRun treeTable p w m₀ ann 1 k2 r.1 (blockOf (behindTheImports p) env (body p env) p1 (base fp))).map fun b=>((b.1,b.2.2,b.2.1.heap.objs.size),
     (segRunT treeTable p w m₀ ann 1 k3 (toT n₁ b.2.1) (piecesOf (behindTheImports p) env (body p env) p2 (base fp))).map fun c=>((c.1,c.2.2),
      (topRun treeTable p w m₀ ann k4 c.2.1.abs ⟨doneF .next,body p env,p3,base fp⟩).map (look p q loose Xt Yf (boot_heap w.params)))))) =
   fun _=>some (⟨denote treeTable (body p env),body p env,p1,base fp⟩,some ((.next,(body p env,p2),n₁),some ((.next,body p env,p3),some (true,openGood q loose,Ya w))))) :
  LeftO p q loose Xt Yf Ya N:=fun w=>by
 obtain⟨s0,a0,b0⟩:=Option.map_eq_some_iff.mp (boot_open e0 hN f0 w)
 obtain⟨hp,gs,d,k,os⟩:=s0
 obtain⟨rfl,rfl,rfl,rfl⟩:hp=boot_heap w.params∧gs=Array.mk []∧d=boot_drawn∧k=boot_toks:=by simpa using b0
 obtain⟨z1,z2,z3⟩:_∧_∧_:=by simpa only [Prod.mk.injEq] using size w
 obtain⟨⟨s1,t1⟩,h1,e1⟩:=Option.map_eq_some_iff.mp (congrFun (h w) os)
 obtain⟨rfl,e1⟩:=Prod.mk.inj e1
 obtain⟨⟨f2,s2,c2,q2⟩,h2,e2⟩:=Option.map_eq_some_iff.mp e1
 obtain⟨e2,e2'⟩:=Prod.mk.inj e2
 obtain⟨rfl,e2⟩:=Prod.mk.inj e2
 obtain⟨e2,hz⟩:=Prod.mk.inj e2
 obtain⟨rfl,rfl⟩:=Prod.mk.inj e2
 obtain⟨⟨f3,s3,c3,q3⟩,h3,e3⟩:=Option.map_eq_some_iff.mp e2'
 obtain⟨e3,e3'⟩:=Prod.mk.inj e3
 obtain⟨rfl,e3⟩:=Prod.mk.inj e3
 obtain⟨rfl,rfl⟩:=Prod.mk.inj e3
 obtain⟨s4,h4,e4⟩:=Option.map_eq_some_iff.mp e3'
 have h3':=segRun_of h3
 rw[ϛK hz] at h3'
 have h4':topRun treeTable p w m₀ ann (k3+k4) s2 (restOf (behindTheImports p++[]) env (body p env) _ [topFrame fp])=some s4:=piece_app h3' h4
 rw[List.append_nil] at h4'
 have r:=topRun_mono (N-(k1+(k2+(k3+k4)))) _ _ _ _ (go_top h1 (piece_block h2 h4'))
 rw[show k1+(k2+(k3+k4))+(N-(k1+(k2+(k3+k4))))=N by have:=Nat.le_of_ble_eq_true le;omega] at r
 obtain⟨l1,l2⟩:=Prod.mk.inj e4
 have t:topFrom treeTable p w N ⟨boot_heap w.params,Array.mk [],boot_drawn,boot_toks,os⟩=some s4:=by
  unfold topFrom
  dsimp only
  rw[z1,z2,z3,r]
  dsimp only[Option.bind_some]
  rw[l1]
 unfold openEnds
 rw[a0]
 show(topFrom treeTable p w N _).map _=_
 rw[t]
 exact congrArg some l2
end Hd
namespace Hd
open PySem PySem.W PySem.Calls PyProof.Rows
end Hd
namespace Hd
open PySem PySem.W PySem.Calls PyProof.Rows
end Hd
namespace L2
open PySem PySem.Spec PyProof.Rows
section
variable {κ:Type} [DecidableEq κ]
def valV (kvs:List (κ×V)) (k:κ):Option V:=(kvs.find? fun kv=>decide (kv.1=k)).map (·.2)
def putK (kvs:List (κ×V)) (k:κ) (v:V):List (κ×V):=
 if (kvs.any fun kv=>decide (kv.1=k))=true then kvs.map (fun kv=>if kv.1=k then (kv.1,v) else kv) else kvs++[(k,v)]
theorem ϲ7 {k:κ}:valV ([]:List (κ×V)) k=none:=rfl
theorem ϑj {p:κ×V}{r:List (κ×V)}{k:κ} (e:p.1=k):valV (p::r) k=some p.2:=by simp[valV,List.find?_cons,e]
theorem ϑg {p:κ×V}{r:List (κ×V)}{k:κ} (e:¬ p.1=k):valV (p::r) k=valV r k:=by simp[valV,List.find?_cons,e]
theorem ϰZ (k:κ):∀kvs:List (κ×V),(kvs.any fun kv=>decide (kv.1=k))=(valV kvs k).isSome
 |[]=>rfl
 |p::r=>by
  rw[List.any_cons]
  by_cases e:p.1=k
  ·simp only[ϑj e,decide_eq_true e,Bool.true_or,Option.isSome_some]
  ·rw[ϑg e,decide_eq_false e,Bool.false_or];exact ϰZ k r
theorem ϡb (k j:κ) (y:V):∀kvs:List (κ×V),valV (kvs.map fun kv=>if kv.1=k then (kv.1,y) else kv) j=(valV kvs j).map fun x=>if j=k then y else x
 |[]=>rfl
 |p::r=>by
  have ih:=ϡb k j y r
  rw[List.map_cons]
  by_cases h:p.1=k
  ·rw[if_pos h]
   by_cases e:p.1=j
   ·rw[ϑj (p:=(p.1,y)) e,ϑj e,Option.map_some,if_pos (e.symm.trans h)]
   ·rw[ϑg (p:=(p.1,y)) e,ϑg e,ih]
  ·rw[if_neg h]
   by_cases e:p.1=j
   ·rw[ϑj (p:=p) e,ϑj e,Option.map_some,if_neg (fun z=>h (e.trans z))]
   ·rw[ϑg (p:=p) e,ϑg e,ih]
theorem ϵ8 (k j:κ) (y:V):∀kvs:List (κ×V),valV kvs k=none→valV (kvs++[(k,y)]) j=if j=k then some y else valV kvs j
 |[],_=>by
  by_cases e:k=j
  ·rw[if_pos e.symm];exact ϑj (p:=(k,y)) e
  ·rw[if_neg (fun z=>e z.symm)];exact ϑg (p:=(k,y)) e
 |p::r,hn=>by
  rw[List.cons_append]
  have hk:¬ p.1=k:=fun z=>by rw[ϑj z] at hn;cases hn
  rw[ϑg hk] at hn
  have ih:=ϵ8 k j y r hn
  by_cases e:p.1=j
  ·rw[ϑj e,ϑj e,if_neg (fun z=>hk (e.trans z))]
  ·rw[ϑg e,ϑg e,ih]
theorem ϕR (kvs:List (κ×V)) (k j:κ) (y:V):valV (putK kvs k y) j=if j=k then some y else valV kvs j:=by
 unfold putK
 by_cases a:(kvs.any fun kv=>decide (kv.1=k))=true
 ·rw[if_pos a,ϡb]
  rw[ϰZ] at a
  by_cases e:j=k
  ·obtain⟨x,hx⟩:=Option.isSome_iff_exists.mp a
   rw[if_pos e,e,hx,Option.map_some,if_pos rfl]
  ·rw[if_neg e]
   cases valV kvs j with
   |none=>rfl
   |some x=>rw[Option.map_some,if_neg e]
 ·rw[if_neg a]
  refine ϵ8 k j y kvs ?_
  rw[ϰZ] at a
  cases q:valV kvs k with
  |none=>rfl
  |some x=>rw[q] at a;exact(a rfl).elim
theorem ϑP (kvs:List (κ×V)) (k:κ) (v:V):(putK kvs k v).length≤kvs.length+1:=by
 unfold putK
 split
 ·rw[List.length_map];omega
 ·rw[List.length_append,List.length_cons,List.length_nil];omega
theorem ϱu {kvs:List (κ×V)}{k:κ} (v:V) (h:valV kvs k=none):putK kvs k v=kvs++[(k,v)]:=by
 unfold putK
 rw[ϰZ,h]
 exact if_neg (by decide)
theorem RelO.isSome_eq {o:Option V}{u:Option Value} (r:RelO o u):o.isSome=u.isSome:=by
 cases o with
 |none=>cases u with
  |none=>rfl
  |some _=>exact(show False from r).elim
 |some _=>cases u with
  |none=>exact(show False from r).elim
  |some _=>rfl
theorem RelO.getD {o:Option V}{u:Option Value}{d:V}{d':Value} (r:RelO o u) (rd:RelV d d'):RelV (o.getD d) (u.getD d'):=by
 cases o with
 |none=>cases u with
  |none=>exact rd
  |some _=>exact(show False from r).elim
 |some _=>cases u with
  |none=>exact(show False from r).elim
  |some _=>exact r
theorem KV.val {kvs:List (κ×V)}{vs:List (κ×Value)} (r:KV kvs vs) (k:κ):RelO (valV kvs k) (valueAt vs k):=by
 unfold KV at r
 induction r with
 |nil=>exact True.intro
 |@cons p q ps qs h t ih=>
  obtain⟨h1,h2⟩:=h
  by_cases e:p.1=k
  ·have e':q.1=k:=h1.symm.trans e
   have b:valueAt (q::qs) k=some q.2:=by simp[valueAt,List.find?_cons,e']
   rw[ϑj e,b];exact h2
  ·have e':¬ q.1=k:=fun z=>e (h1.trans z)
   have b:valueAt (q::qs) k=valueAt qs k:=by simp[valueAt,List.find?_cons,e']
   rw[ϑg e,b];exact ih
theorem KV.any {kvs:List (κ×V)}{vs:List (κ×Value)} (r:KV kvs vs) (k:κ):(kvs.any fun kv=>decide (kv.1=k))=vs.any fun kv=>decide (kv.1=k):=by
 unfold KV at r
 induction r with
 |nil=>rfl
 |cons h t ih=>rw[List.any_cons,List.any_cons,ih,h.1]
theorem KV.repl {kvs:List (κ×V)}{vs:List (κ×Value)} (r:KV kvs vs) (k:κ) {y:V}{u:Value} (ry:RelV y u) :
  KV (kvs.map fun kv=>if kv.1=k then (kv.1,y) else kv) (vs.map fun kv=>if kv.1=k then (kv.1,u) else kv):=by
 unfold KV at r⊢
 induction r with
 |nil=>exact .nil
 |@cons p q ps qs h t ih=>
  rw[List.map_cons,List.map_cons]
  refine .cons ?_ ih
  obtain⟨h1,h2⟩:=h
  by_cases e:p.1=k
  ·rw[if_pos e,if_pos (h1.symm.trans e)];exact⟨h1,ry⟩
  ·rw[if_neg e,if_neg (fun z=>e (h1.trans z))];exact⟨h1,h2⟩
theorem KV.put {kvs:List (κ×V)}{vs:List (κ×Value)} (r:KV kvs vs) (k:κ) {y:V}{u:Value} (ry:RelV y u):KV (putK kvs k y) (stored vs k u):=by
 unfold putK stored
 rw[r.any k]
 by_cases e:(vs.any fun kv=>decide (kv.1=k))=true
 ·rw[if_pos e,if_pos e];exact r.repl k ry
 ·rw[if_neg e,if_neg e];exact Paired.snoc r ⟨rfl,ry⟩
theorem KV.length {kvs:List (κ×V)}{vs:List (κ×Value)} (r:KV kvs vs):kvs.length=vs.length:=Paired.length r
end
theorem ϲS {P:Program}{w:World}{k:Key}{u:Value} (r:RelV (kV k) u):(ϖ0 P w).is k u=true:=by
 cases k with
 |inl i=>obtain⟨t,e⟩:=(show ∃t,u=Value.int i t from r);subst e;exact ϲG P w i t
 |inr x=>obtain⟨t,e⟩:=(show ∃t,u=Value.str x t from r);subst e;exact ϲ5 P w x t
theorem ϲb {P:Program}{w:World}:∀{ks:List Key}{us:List Value},Vals (ks.map kV) us→ItemsAre (ϖ0 P w) ks us
 |[],_,r=>by rw[List.map_nil] at r;cases r;exact .nil
 |k::ks,_,r=>by
  rw[List.map_cons] at r
  cases r with
  |cons h t=>exact .cons (ϲS h) (ϲb t)
abbrev KT (H:Hp):List (List Key×V)→List (List Key×Addr×Value)→Prop:=Paired fun p q=>p.1=q.1∧H q.2.1=some (.tup (p.1.map kV))∧RelV p.2 q.2.2
theorem KT.val {H:Hp}{kvs:List (List Key×V)}{xs:List (List Key×Addr×Value)} (r:KT H kvs xs) (k:List Key):RelO (valV kvs k) ((atKey xs k).map (·.2)):=by
 induction r with
 |nil=>exact True.intro
 |@cons p q ps qs h t ih=>
  obtain⟨h1,_,h2⟩:=h
  by_cases e:p.1=k
  ·have e':q.1=k:=h1.symm.trans e
   have b:atKey (q::qs) k=some q.2:=by simp[atKey,List.find?_cons,e']
   rw[ϑj e,b];exact h2
  ·have e':¬ q.1=k:=fun z=>e (h1.trans z)
   have b:atKey (q::qs) k=atKey qs k:=by simp[atKey,List.find?_cons,e']
   rw[ϑg e,b];exact ih
theorem KT.repl {H:Hp}{kvs:List (List Key×V)}{xs:List (List Key×Addr×Value)} (r:KT H kvs xs) (k:List Key) {y:V}{u:Value} (ry:RelV y u) :
  KT H (kvs.map fun kv=>if kv.1=k then (kv.1,y) else kv) (xs.map (putAt k u)):=by
 induction r with
 |nil=>exact .nil
 |@cons p q ps qs h t ih=>
  rw[List.map_cons,List.map_cons]
  refine .cons ?_ ih
  obtain⟨h1,h2,h3⟩:=h
  unfold putAt
  by_cases e:p.1=k
  ·rw[if_pos e,if_pos (h1.symm.trans e)];exact⟨h1,h2,ry⟩
  ·rw[if_neg e,if_neg (fun z=>e (h1.trans z))];exact⟨h1,h2,h3⟩
theorem KT.put {H:Hp}{kvs:List (List Key×V)}{xs:List (List Key×Addr×Value)} (r:KT H kvs xs) (k:List Key) {b:Addr}{y:V}{u:Value} (hb:H b=some (.tup (k.map kV))) (ry:RelV y u) :
  KT H (putK kvs k y) (storedH xs k b u):=by
 have e:(kvs.any fun kv=>decide (kv.1=k))=(atKey xs k).isSome:=by
  rw[ϰZ,(r.val k).isSome_eq,Option.isSome_map]
 unfold putK storedH
 rw[e]
 by_cases q:(atKey xs k).isSome=true
 ·rw[if_pos q,if_pos q];exact r.repl k ry
 ·rw[if_neg q,if_neg q];exact Paired.snoc r ⟨rfl,hb,ry⟩
theorem KT.keeps {H H':Hp}{kvs:List (List Key×V)}{xs:List (List Key×Addr×Value)} (r:KT H kvs xs) (ht:∀b ys,H b=some (.tup ys)→H' b=some (.tup ys)):KT H' kvs xs:=
 Paired.mapP r fun _ _ z=>⟨z.1,ht _ _ z.2.1,z.2.2⟩
section
variable {P:Program}{w:World}{H:Hp}{h:Heap}{a:Addr}
theorem rd_of {u:HO} (ok:HOk P w H h) (e:Rd H a u):ObjOk P w H h a u:=e.ok ok
theorem ϡM {kvs:List (Key×V)} (ok:HOk P w H h) (e:Rd H a (.dK kvs)):kvs.length≤sizeLine∧(a == sysModules)=false∧∃vs,KV kvs vs∧h.DictOf (ϖ0 P w) a vs:=
 show ObjOk P w H h a (.dK kvs) from rd_of ok e
theorem dk_of {kvs:List (Key×V)} (ok:HOk P w H h) (e:H a=some (.dK kvs)):kvs.length≤sizeLine∧(a == sysModules)=false∧∃vs,KV kvs vs∧h.DictOf (ϖ0 P w) a vs:=ϡM ok (.inl e)
theorem ϱR {ks:List Key} (ok:HOk P w H h) (e:H a=some (.tup (ks.map kV))):(tupleKind (ϖ0 P w)).is h ks a:=by
 obtain⟨_,its,r,o,h1,h2,n,h3⟩:=(show ObjOk P w H h a (.tup (ks.map kV)) from ok a _ e)
 exact⟨o,its.toArray,n,h1,h2,h3,by simpa using ϲb r⟩
theorem ϡG {kvs:List (List Key×V)} (ok:HOk P w H h) (e:Rd H a (.dT kvs)):kvs.length≤sizeLine∧(a == sysModules)=false ∧
  ∃xs,KT H kvs xs∧h.DictOfH (tupleKind (ϖ0 P w)) a xs:=by
 obtain⟨z,y,xs,r,o,es,ep,h1,h2,h3,h4,h5⟩:=(show ObjOk P w H h a (.dT kvs) from rd_of ok e)
 refine⟨z,y,xs,r,o,es,ep,h1,h2,h3,h4,fun x hx=>?_,h5⟩
 have all:∀{l:List (List Key×V)}{m:List (List Key×Addr×Value)},KT H l m→∀x∈m,(tupleKind (ϖ0 P w)).is h x.1 x.2.1:=by
  intro l m q
  induction q with
  |nil=>intro x hx;exact nomatch hx
  |@cons p q ps qs hq t ih=>
   intro x hx
   rcases List.mem_cons.mp hx with e|hx
   ·subst e
    exact ϱR ok (by rw[← hq.1];exact hq.2.1)
   ·exact ih x hx
 exact all r x hx
theorem dt_of {kvs:List (List Key×V)} (ok:HOk P w H h) (e:H a=some (.dT kvs)):kvs.length≤sizeLine∧(a == sysModules)=false ∧
  ∃xs,KT H kvs xs∧h.DictOfH (tupleKind (ϖ0 P w)) a xs:=ϡG ok (.inl e)
end
def DGet (H:Hp) (a:Addr) (y:V) (r:Option V):Prop:=
 (∃ kvs k,Rd H a (.dK kvs)∧y=kV k∧r=valV kvs k)∨∃kvs k b,Rd H a (.dT kvs)∧y=.ref b∧H b=some (.tup (k.map kV))∧r=valV kvs k
def DPut (H:Hp) (a:Addr) (y v:V) (H':Hp):Prop:=
 (∃ kvs k,H a=some (.dK kvs)∧y=kV k∧kvs.length < sizeLine∧H'=upd H a (.dK (putK kvs k v))) ∨
 ∃kvs k b,H a=some (.dT kvs)∧y=.ref b∧H b=some (.tup (k.map kV))∧kvs.length < sizeLine∧H'=upd H a (.dT (putK kvs k v))
theorem DGet.k {H:Hp}{a:Addr}{kvs:List (Key×V)}{k:Key} (e:H a=some (.dK kvs)):DGet H a (kV k) (valV kvs k):=.inl ⟨kvs,k,.inl e,rfl,rfl⟩
theorem DGet.t {H:Hp}{a b:Addr}{kvs:List (List Key×V)}{k:List Key} (e:H a=some (.dT kvs)) (eb:H b=some (.tup (k.map kV))):DGet H a (.ref b) (valV kvs k):=.inr ⟨kvs,k,b,.inl e,rfl,eb,rfl⟩
theorem DPut.k {H:Hp}{a:Addr}{kvs:List (Key×V)}{k:Key}{v:V} (e:H a=some (.dK kvs)) (hl:kvs.length < sizeLine):DPut H a (kV k) v (upd H a (.dK (putK kvs k v))):=.inl ⟨kvs,k,e,rfl,hl,rfl⟩
theorem DPut.t {H:Hp}{a b:Addr}{kvs:List (List Key×V)}{k:List Key}{v:V} (e:H a=some (.dT kvs)) (eb:H b=some (.tup (k.map kV))) (hl:kvs.length < sizeLine) :
  DPut H a (.ref b) v (upd H a (.dT (putK kvs k v))):=.inr ⟨kvs,k,b,e,rfl,eb,hl,rfl⟩
section
variable {X:Cx}{pins:List (Addr×Obj)}{σ:St}{H:Hp}{s:Shared}{a:Addr}{y v:V}{u r:Value}{o:Option V}{A:Around}{E:Value→Shared→Prop}
theorem Inv.big (I:Inv X pins σ H s):sysModules < s.heap.objs.size:=by
 have h:mainGlobals < s.heap.objs.size:=(I.mod.glob.keeps I.bk).lt
 exact Nat.lt_trans (by decide) h
theorem ϟq {Q:Value→Shared→Prop} (hu:A.units+1 < cLine) (I:Inv X pins σ H s) (g:DGet H a y (some v)) (ry:RelV y u) (h:∀w' s',Inv X pins σ H s'→RelV v w'→Q w' s') :
  wpAny (model X.prog X.w) A (getItem (.ref a) u) Q E s:=by
 rcases g with⟨kvs,k,e,ey,l⟩|⟨kvs,k,b,e,ey,eb,l⟩
 ·subst ey
  obtain⟨z,hd,vs,rel,dd⟩:=ϡM I.hok e
  obtain⟨w',hw,rw'⟩:=RelO.some_of (v:=v) (o:=valueAt vs k) (by rw[l];exact rel.val k)
  exact wpAny_getItem_of (ϲS ry) dd.mapOf hw (h w' _ (I.tok _) rw')
 ·subst ey
  cases (show u=Value.ref b from ry)
  obtain⟨z,hd,xs,rel,dd⟩:=ϡG I.hok e
  obtain⟨w',hw,rw'⟩:=RelO.some_of (v:=v) (o:=(atKey xs k).map (·.2)) (by rw[l];exact rel.val k)
  obtain⟨p,hp,hp2⟩:=Option.map_eq_some_iff.mp hw
  refine wpAny_getItem_heap (tupleKind_room_in1 hu) (ϱR I.hok eb) dd hp ?_
  rw[hp2]
  exact h w' _ (I.tok _) rw'
theorem d_in {Q:Value→Shared→Prop} (hu:A.units+1 < cLine) (I:Inv X pins σ H s) (g:DGet H a y o) (ry:RelV y u) (h:∀s',Inv X pins σ H s'→Q (.bool o.isSome) s') :
  wpAny (model X.prog X.w) A (compareOp .In u (.ref a)) Q E s:=by
 rcases g with⟨kvs,k,e,ey,l⟩|⟨kvs,k,b,e,ey,eb,l⟩
 ·subst ey
  obtain⟨z,hd,vs,rel,dd⟩:=ϡM I.hok e
  refine wpAny_in_of (ϲS ry) hd dd.mapOf ?_
  rw[← (rel.val k).isSome_eq,← l]
  exact h _ (I.tok _)
 ·subst ey
  cases (show u=Value.ref b from ry)
  obtain⟨z,hd,xs,rel,dd⟩:=ϡG I.hok e
  refine wpAny_in_heap (tupleKind_room_in1 hu) (ϱR I.hok eb) hd dd ?_
  have q:=(rel.val k).isSome_eq
  rw[Option.isSome_map] at q
  rw[← q,← l]
  exact h _ (I.tok _)
theorem ϛo {Q:Value→Shared→Prop} (hu:A.units+1 < cLine) (I:Inv X pins σ H s) (g:DGet H a y o) (ry:RelV y u) (h:∀s',Inv X pins σ H s'→Q (.bool (!o.isSome)) s') :
  wpAny (model X.prog X.w) A (compareOp .NotIn u (.ref a)) Q E s:=by
 rcases g with⟨kvs,k,e,ey,l⟩|⟨kvs,k,b,e,ey,eb,l⟩
 ·subst ey
  obtain⟨z,hd,vs,rel,dd⟩:=ϡM I.hok e
  refine wpAny_notIn_of (ϲS ry) hd dd.mapOf ?_
  rw[← (rel.val k).isSome_eq,← l]
  exact h _ (I.tok _)
 ·subst ey
  cases (show u=Value.ref b from ry)
  obtain⟨z,hd,xs,rel,dd⟩:=ϡG I.hok e
  refine wpAny_notIn_heap (tupleKind_room_in1 hu) (ϱR I.hok eb) hd dd ?_
  have q:=(rel.val k).isSome_eq
  rw[Option.isSome_map] at q
  rw[← q,← l]
  exact h _ (I.tok _)
theorem ϵL {h':Heap}{t':Nat}{ob:HO} (I:Inv X pins σ H s) (mu:Mut (H a)) (hs:Heap.SameBut a s.heap h') (he:∃q,h'.get? a=some q) (new:ObjOk X.prog X.w (upd H a ob) h' a ob) :
  Inv X pins σ (upd H a ob) { s with heap:=h',toks:=t' }:=
 I.write (x:=a) (e:=a) mu (.inl rfl) (fun b q hb z=>(hs.2 b hb).trans z) he new
theorem ϝP {P:Program}{w:World}{H':Hp}{h':Heap}{kvs:List (Key×V)}{vs:List (Key×Value)} (z:kvs.length≤sizeLine) (hd:(a == sysModules)=false) (rel:KV kvs vs) (dd:h'.DictOf (ϖ0 P w) a vs) :
  ObjOk P w H' h' a (.dK kvs):=⟨z,hd,vs,rel,dd⟩
theorem ϟl {H':Hp}{Q:Unit→Shared→Prop} (hu:A.units+1 < cLine) (I:Inv X pins σ H s) (g:DPut H a y v H') (ry:RelV y u) (rv:RelV v r) (h:∀s',Inv X pins σ H' s'→Q () s') :
  wpAny (model X.prog X.w) A (setItem (.ref a) u r) Q E s:=by
 rcases g with⟨kvs,k,e,ey,l,eH⟩|⟨kvs,k,b,e,ey,eb,l,eH⟩
 ·subst ey eH
  obtain⟨z,hd,vs,rel,dd⟩:=dk_of I.hok e
  have hz:vs.length≤sizeLine:=by rw[← rel.length];exact z
  have hl:(putK kvs k v).length≤sizeLine:=by have:=ϑP kvs k v;omega
  refine wpAny_setItem_pairs (hsz:=hz) (ϲS ry) dd fun h' dd' hs=>h _ ?_
  have he:∃q,h'.get? a=some q:=let ⟨q,_,_,hq,_⟩:=dd';⟨q,hq⟩
  exact ϵL I (by rw[e];exact True.intro) hs he (ϝP hl hd (rel.put k rv) dd')
 ·subst ey eH
  cases (show u=Value.ref b from ry)
  obtain⟨z,hd,xs,rel,dd⟩:=dt_of I.hok e
  have hz:xs.length≤sizeLine:=by rw[← Paired.length rel];exact z
  have hl:(putK kvs k v).length≤sizeLine:=by have:=ϑP kvs k v;omega
  refine wpAny_setItem_heap (hsz:=hz) (tupleKind_room_in1 hu) (ϱR I.hok eb) dd fun h' dd' hs=>h _ ?_
  obtain⟨q,es,ep,hq,h2,h3,h4,_,h5⟩:=dd'
  refine ϵL I (by rw[e];exact True.intro) hs ⟨q,hq⟩ ⟨hl,hd,_,(rel.put k eb rv).keeps fun c ys ec=>?_,q,es,ep,hq,h2,h3,h4,h5⟩
  rw[ϖq (ne_of ec e (fun z=>nomatch z))]
  exact ec
end
section
variable {X:Cx}{pins:List (Addr×Obj)}{σ:St}{H:Hp}{s:Shared}{a:Addr}{kvs:List (Key×V)}{k:Key}{u:Value}{A:Around}{E:Value→Shared→Prop}
end
def NoSl (i:Expr):Prop:=∀ov iv,subscripted i false ov iv=operate [ov,iv] (getItem ov iv)
theorem ϛG {prog:Program}{w:World}{A:Around}{E:Value→Shared→Prop}{s:Shared}{env:Env}{value slice:Expr}{pos:Pos}{T id:String}{Q:Value→Shared→Prop}
  (hl:typeLookup (.type T) "__getitem__"=pure (some (.builtin id))) (hs:NoSl slice)
  (h:wpAny (model prog w) A (eval value env) (fun o s₁=>wpAny (model prog w) A (eval slice env) (fun i s₂=>s₂.TypeIs o T∧wpAny (model prog w) A (getItem o i) Q E s₂) E s₁) E s) :
  wpAny (model prog w) A (eval (.Subscript value slice pos) env) Q E s:=by
 refine Subscript_ (wpAny_mono h (fun o s₁ h₁=>wpAny_mono h₁ (fun i s₂ h₂=>?_) fun _ _ x=>x) fun _ _ x=>x)
 obtain⟨hT,h₂⟩:=h₂
 unfold subscriptTail
 refine wpAny_bind ?_
 rw[getitemInPython_of_ne hT.not_modules]
 refine wpAny_bind (wpAny_specialOf hT hl ?_)
 have fin:wpAny (model prog w) A (subscripted slice false o i) (fun r s₃=>wpAny (model prog w) A (letTemporaryGo value o r >>= fun _=>pure r) Q E s₃) E s₂:=by
  rw[hs o i]
  exact wpAny_operating (wpAny_mono h₂ (fun r s₃ h₃=>wpAny_bind (wpAny_letTemporaryGo (wpAny_pure h₃))) fun _ _ x=>x)
 first
  |exact wpAny_pure (wpAny_bind fin)
  |exact wpAny_bind (wpAny_pure (wpAny_bind fin))
  |exact wpAny_bind fin
theorem ϲA {X:Cx}{pins:List (Addr×Obj)}{σ:St}{H:Hp}{s:Shared}{a:Addr}{y:V}{o:Option V} (I:Inv X pins σ H s) (g:DGet H a y o):s.TypeIs (.ref a) "dict":=by
 rcases g with⟨kvs,k,e,_,_⟩|⟨kvs,k,b,e,_,_,_⟩
 ·obtain⟨_,_,vs,_,dd⟩:=ϡM I.hok e
  exact dd.typeIs
 ·obtain⟨_,_,xs,_,dd⟩:=ϡG I.hok e
  exact dd.typeIs
def tDGet (td ty:TE):TE:=fun σ H Q=>td σ H fun x H1=>ty σ H1 fun y H2=>∃a v,x=.ref a∧DGet H2 a y (some v)∧Q v H2
def tDIn (ty td:TE):TE:=fun σ H Q=>ty σ H fun y H1=>td σ H1 fun x H2=>∃a o,x=.ref a∧DGet H2 a y o∧Q (.bl o.isSome) H2
def ϛq (ty td:TE):TE:=fun σ H Q=>ty σ H fun y H1=>td σ H1 fun x H2=>∃a o,x=.ref a∧DGet H2 a y o∧Q (.bl (!o.isSome)) H2
def sDPut (td ty tv:TE):TS:=fun D σ H=>tv σ H fun v H1=>td σ H1 fun x H2=>ty σ H2 fun y H3=>∃a H4,x=.ref a∧DPut H3 a y v H4∧D.nx σ H4
section
variable {X:Cx}{o i e value:Expr}{pos pos' tpos:Pos}{td ty tv:TE}
theorem ϑ5 (hu:X.A.units+1 < cLine) (ho:PE X o td) (hi:PE X i ty) (hs:NoSl i):PE X (.Subscript o i pos) (tDGet td ty):=by
 intro pins s σ H Q I h
 refine ϛG PySem.F.slot_dict_getitem.lookup hs (thn (ho pins s σ H _ I h) fun u s1 ⟨x,H1,I1,rx,q1⟩=>thn (hi pins s1 σ H1 _ I1 q1) fun iv s2 ⟨y,H2,I2,ry,a,v,ex,g,q2⟩=>?_)
 subst ex
 obtain rfl:u=Value.ref a:=rx
 exact⟨ϲA I2 g,ϟq hu I2 g ry fun w' s3 I3 rw'=>⟨v,H2,I3,rw',q2⟩⟩
theorem ϡk (hu:X.A.units+1 < cLine) (hi:PE X i ty) (ho:PE X o td):PC X .In i o (tDIn ty td):=by
 intro pins s σ H Q I h
 refine thn (hi pins s σ H _ I h) fun iv s1 ⟨y,H1,I1,ry,q1⟩=>thn (ho pins s1 σ H1 _ I1 q1) fun u s2 ⟨x,H2,I2,rx,a,ov,ex,g,q2⟩=>?_
 subst ex
 obtain rfl:u=Value.ref a:=rx
 exact d_in hu I2 g ry fun s3 I3=>⟨.bl ov.isSome,H2,I3,rfl,q2⟩
theorem ϲe (hu:X.A.units+1 < cLine) (hi:PE X i ty) (ho:PE X o td):PC X .NotIn i o (ϛq ty td):=by
 intro pins s σ H Q I h
 refine thn (hi pins s σ H _ I h) fun iv s1 ⟨y,H1,I1,ry,q1⟩=>thn (ho pins s1 σ H1 _ I1 q1) fun u s2 ⟨x,H2,I2,rx,a,ov,ex,g,q2⟩=>?_
 subst ex
 obtain rfl:u=Value.ref a:=rx
 exact ϛo hu I2 g ry fun s3 I3=>⟨.bl (!ov.isSome),H2,I3,rfl,q2⟩
theorem ϕU (hu:X.A.units+1 < cLine) (ho:PE X o td) (hi:PE X i ty) (hv:PE X value tv) (hs:swapsWith value (some (.Subscript o i pos')) pos.line X.env=pure false) :
  PS X (.Assign [.Subscript o i pos'] value pos) (sDPut td ty tv):=by
 intro pins s σ H D I h
 refine wpAny_Assign_Subscript (thn (hv pins s σ H _ I h) fun r s1 ⟨v,H1,I1,rv,q1⟩=>thn (ho pins s1 σ H1 _ I1 q1) fun u s2 ⟨x,H2,I2,rx,q2⟩=>thn (hi pins s2 σ H2 _ I2 q2) fun iv s3 ⟨y,H3,I3,ry,a,H4,ex,g,q3⟩=>?_) hs
 subst ex
 obtain rfl:u=Value.ref a:=rx
 exact ϟl hu I3 g ry rv fun s4 I4=>⟨σ,H4,I4,q3⟩
end
theorem ϝe {P:Program}{w:World}{H:Hp} (h:Heap) (hb:sysModules < h.objs.size):ObjOk P w H (h.push { cls:=.type "dict",data:=.dict #[] }) h.objs.size (.dK []):=
 ⟨Nat.zero_le _,beq_eq_false_iff_ne.mpr (Ne.symm (Nat.ne_of_lt hb)),[],.nil,Heap.DictOf.new h⟩
theorem ϝx {P:Program}{w:World}{H:Hp} (h:Heap) (hb:sysModules < h.objs.size):ObjOk P w H (h.push { cls:=.type "dict",data:=.dict #[] }) h.objs.size (.dT []):=
 ⟨Nat.zero_le _,beq_eq_false_iff_ne.mpr (Ne.symm (Nat.ne_of_lt hb)),[],.nil,_,#[],0,Heap.get?_push_size _ rfl,⟨rfl,rfl,rfl⟩,rfl,rfl,List.nodup_nil⟩
def tDNewK:TE:=fun _ H Q=>∀p,H p=none→Q (.ref p) (upd H p (.dK []))
def tDNewT:TE:=fun _ H Q=>∀p,H p=none→Q (.ref p) (upd H p (.dT []))
section
variable {X:Cx}{pos:Pos}
theorem ϰu:PE X (.Dict [] [] pos) tDNewK:=fun pins s σ H Q I h=>
 wpAny_Dict_empty ⟨.ref s.heap.objs.size,_,I.laid (a:=s.heap.objs.size) (o:=.dK []) (t':=s.toks) (fun _ _ q=>Heap.get?_push_of_some _ q) (Nat.le_refl _) (ϝe s.heap I.big),rfl,h _ (I.hok.fresh (Nat.le_refl _))⟩
theorem ϕ0:PE X (.Dict [] [] pos) tDNewT:=fun pins s σ H Q I h=>
 wpAny_Dict_empty ⟨.ref s.heap.objs.size,_,I.laid (a:=s.heap.objs.size) (o:=.dT []) (t':=s.toks) (fun _ _ q=>Heap.get?_push_of_some _ q) (Nat.le_refl _) (ϝx s.heap I.big),rfl,h _ (I.hok.fresh (Nat.le_refl _))⟩
end
def tPairs:List (TE×TE)→St→Hp→(List (V×V)→Hp→Prop)→Prop
 |[],_,H,Q=>Q [] H
 |(tk,tv)::r,σ,H,Q=>tk σ H fun x H1=>tv σ H1 fun y H2=>tPairs r σ H2 fun ps H3=>Q ((x,y)::ps) H3
section
variable {X:Cx}{pins:List (Addr×Obj)}{σ:St}{H:Hp}{s:Shared}{a:Addr}{y d:V}{u r:Value}{o:Option V}{A:Around}{E:Value→Shared→Prop}
theorem d_get2 {Q:Value→Shared→Prop} (hu:A.units+1 < cLine) (I:Inv X pins σ H s) (g:DGet H a y o) (ry:RelV y u) (rd:RelV d r) (h:∀w' s',Inv X pins σ H s'→RelV (o.getD d) w'→Q w' s') :
  wpAny (model X.prog X.w) A (call (.builtin "dict.get") [.ref a,u,r]) Q E s:=by
 rcases g with⟨kvs,k,e,ey,l⟩|⟨kvs,k,b,e,ey,eb,l⟩
 ·subst ey
  obtain⟨z,hd,vs,rel,dd⟩:=ϡM I.hok e
  refine call_meetsIn PySem.F.slot_dict_get dd.typeIs PySem.F.entry_dict_get (PySem.F.args_dict_get_3 _ _ _) (meets_dict_get_default (ϖ0 X.prog X.w) a (ϲS ry) hd r) ⟨_,dd.mapOf,h _ _ (I.tok _) ?_⟩
  rw[l]
  exact(rel.val k).getD rd
 ·subst ey
  cases (show u=Value.ref b from ry)
  obtain⟨z,hd,xs,rel,dd⟩:=ϡG I.hok e
  refine call_meetsIn PySem.F.slot_dict_get dd.typeIs PySem.F.entry_dict_get (PySem.F.args_dict_get_3 _ _ _) (meetsH_dict_get_default (tupleKind (ϖ0 X.prog X.w)) a b hd r) ⟨tupleKind_room_in1 hu,k,xs,ϱR I.hok eb,dd,h _ _ (I.tok _) ?_⟩
  rw[l]
  exact(rel.val k).getD rd
end
section
variable {X:Cx}{o e f:Expr}{apos cpos:Pos}{td ty tx:TE}
end
section
variable {X:Cx}{pins:List (Addr×Obj)}{σ:St}{H:Hp}{s:Shared}{a:Addr}{kvs:List (Key×V)}{A:Around}{E:Value→Shared→Prop}
end
section
variable {X:Cx}{pins:List (Addr×Obj)}{σ:St}{H:Hp}{s:Shared}{a:Addr}{y:V}{u:Value}{A:Around}{E:Value→Shared→Prop}
end
section
variable {X:Cx}
end
section
variable {κ:Type} [DecidableEq κ]
end
end L2
namespace L3
open PySem PySem.Spec PyProof.Rows L2
theorem ϕZ:bootBuiltins "len"=some (.builtin "len"):=by decide +kernel
theorem ϡT:bootBuiltins "min"=some (.builtin "min"):=by decide +kernel
theorem ϟz:bootBuiltins "max"=some (.builtin "max"):=by decide +kernel
theorem ϱU:bootBuiltins "list"=some (.type "list"):=by decide +kernel
abbrev cl (z:Str):List Nat:=z.cps.toList
theorem ϕq {a b:Str} (h:cl a=cl b):a=b:=by
 cases a;cases b;congr 1;exact Array.ext' h
theorem ϖS (a b:Str):cl (a++b)=cl a++cl b:=by
 show(a.cps++b.cps).toList=_
 rw[Array.toList_append]
theorem ϖR (a:Str):(cl a).length=a.length:=by
 show a.cps.toList.length=a.cps.size
 rw[Array.length_toList]
theorem ϵx (z:Str) (lo hi:Option Int):cl (Txt.slice z lo hi)=((cl z).drop (HT.sIx z.length 0 lo)).take (HT.sIx z.length z.length hi-HT.sIx z.length 0 lo):=by
 have e:Builtin.Str.strSliceIndices lo hi 1 z.length=sliceRange (sliceBounds lo hi none z.length).1 (sliceBounds lo hi none z.length).2.1 1:=by
  cases lo<;>cases hi<;>rfl
 obtain⟨h1,h2,_⟩:=ϱj lo hi z.length
 have p:(Builtin.Str.strSliceIndices lo hi 1 z.length).filterMap (z.cps[·]?)=((cl z).drop (HT.sIx z.length 0 lo)).take (HT.sIx z.length z.length hi-HT.sIx z.length 0 lo):=by
  rw[e,h1,h2,sliceRange_one,pick_run]
 unfold Txt.slice
 split
 ·rename_i hc
  have hl:(Builtin.Str.strSliceIndices lo hi 1 z.length).length=z.length:=by
   simpa using hc
  rw[e,h1,h2,sliceRange_one,List.length_map,List.length_range] at hl
  have b1:=HT.sIx_le z.length 0 (Nat.zero_le _) lo
  have b2:=HT.sIx_le z.length z.length (Nat.le_refl _) hi
  by_cases h0:z.length=0
  ·have:cl z=[]:=List.eq_nil_of_length_eq_zero (by rw[ϖR];exact h0)
   rw[this];simp
  ·have a0:HT.sIx z.length 0 lo=0:=by omega
   have aN:HT.sIx z.length z.length hi=z.length:=by omega
   rw[a0,aN,List.drop_zero,Nat.sub_zero,← ϖR,List.take_length]
 ·exact p
section
variable {X:Cx}
def rSlS:V→Option Int→Option Int→Hp→VK→Prop:=fun x lo hi H Q=>∃z,x=.str z∧z.length≤sizeLine∧Q (.str (Txt.slice z lo hi)) H
theorem ϟW {v:Value}{o:Option Int} (p:IsPart v o):∃l:Option (Int×Tok),v=partValue l∧l.map (·.1)=o:=by
 cases p with
 |none=>exact⟨none,rfl,rfl⟩
 |int i t=>exact⟨some (i,t),rfl,rfl⟩
theorem ϱm:SlR X rSlS:=by
 intro pins s σ H x v vl vu lo hi sl Q I rx hs pl pu h
 obtain⟨z,rfl,hz,q⟩:=h
 obtain⟨t,rfl⟩:=rx
 obtain⟨l,rfl,rfl⟩:=ϟW pl
 obtain⟨u,rfl,rfl⟩:=ϟW pu
 refine⟨"str",_,PySem.F.slot_str_getitem.lookup,typeIs_str _ _ _,?_⟩
 refine wpAny_getItem_str_slice (l:=l) (u:=u) (st:=none) hs rfl ?_
 refine post_val_or_str ⟨Nat.le_trans (Txt.slice_le z _ _) hz,fun t' k=>?_⟩
 exact⟨.str (Txt.slice z (l.map (·.1)) (u.map (·.1))),H,I.tok _,⟨_,rfl⟩,q⟩
def Cal (P:Program) (w:World) (K:PySem.W.Frag) (mg:Str→Option Value) (base:Heap) (x:Str) (ps:List Str) (k:Nat) (sp:Sp):Prop:=
 ∃f fd,FnOk P w K mg base CX0 k f fd ps sp∧Binds K fd ps []∧PySem.W.keepIn K (.ref f)=true∧mg x=some (.ref f)
def tFn (sp:Sp) (t:TA):TE:=fun σ H Q=>t σ H fun vs H1=>sp vs H1 Q E0
theorem ϖE {x:Str}{ps:List Str}{k k':Nat}{sp:Sp}{p pos:Pos}{e:Expr}{es:List Expr}{t:TA} (C:Cal X.prog X.w X.K X.mg X.base x ps k sp) (hr:Room k' X.A) (hk:k≤k') (hg:Gl X x)
  (ha:PA X (e::es) t) (hdb:(x == ("__debug__":Str))=false:=by decide) (he:starEach (e::es) X.env=(false,eval e X.env)::starEach es X.env:=by rfl) (hpl:(backTo pos (starEach es X.env)).any (·.1)=false:=by rfl) :
  PE X (.Call (.Name x p) (e::es) [] pos) (tFn sp t):=by
 obtain⟨f,fd,F,b,kp,hm⟩:=C
 intro pins s σ H Q I h
 refine wpAny_Call_Name_kw (ϵF I hg hm ?_ hdb)
 refine PySem.W.callWith_K (h₀:=X.base) I.ok.mod.kin kp (thn (ha pos pins s σ H _ I h) fun us s1 ⟨vs,H1,I1,r,q⟩=>⟨I1.kIn,?_⟩) he hpl
 exact ϝY (dvs:=[]) F (hr.mono hk) b .nil pass0 I1 r (by rw[List.append_nil];exact q)
end
section
variable {X:Cx}
def tMid (t u:TS):TS:=fun D σ H=>∃M:L2.St→Hp→Prop,t { D with nx:=M } σ H∧∀σ' H',M σ' H'→u D σ' H'
theorem ϕ5 {st:Stmt}{rest:List Stmt}{t u:TS} (h1:PS X st t) (h2:PSs X rest u):PSs X (st::rest) (tMid t u):=by
 intro pins s σ H D I h
 obtain⟨M,ht,hu⟩:=h
 refine wpAny_execs_cons (thn (h1 pins s σ H { D with nx:=M } I ht) fun f s1 q=>?_)
 cases f with
 |next=>
  obtain⟨σ',H',I',q⟩:=q
  exact h2 pins s1 σ' H' D I' (hu σ' H' q)
 |ret v=>exact q
 |brk=>exact q
 |cont=>exact q
def tAbs (t:TE):TE:=fun σ H Q=>∃P:V→Hp→Prop,t σ H P∧∀v H',P v H'→Q v H'
theorem ϕL {e:Expr}{t:TE} (h:PE X e t):PE X e (tAbs t):=by
 intro pins s σ H Q I hw
 obtain⟨P,ht,hq⟩:=hw
 exact thn (h pins s σ H P I ht) fun u s1 ⟨v,H1,I1,r1,q1⟩=>⟨v,H1,I1,r1,hq v H1 q1⟩
def ϡx (K:PySem.W.Frag):R2:=fun x y H Q=>∃p xs i,x=.ref p∧y=.int i∧SqL K H p xs∧0≤i∧i < xs.length∧∃W:V→Prop,(∀ v∈xs,W v)∧∀v,W v→Q v H
theorem ϱP:IxR X (ϡx X.K):=by
 intro value slice pins s σ H x y v u Q I rx ry h hs
 obtain⟨p,xs,i,rfl,rfl,hq,h0,h1,W,hW,q⟩:=h
 obtain⟨n,rfl⟩:=Int.eq_ofNat_of_zero_le h0
 have hn:n < xs.length:=by omega
 exact ϖD value slice pins s σ H _ _ v u Q I rx ry ⟨p,xs,_,xs[n],rfl,rfl,hq,ϖQ (by rw[List.getElem?_eq_getElem hn]),q _ (hW _ (List.getElem_mem hn))⟩ hs
end
theorem pz {j:Int} (h:decide (0 < j)=true:=by decide):0 < j:=of_decide_eq_true h
theorem iteD {c A B:Prop} [Decidable c] (hc:¬ c) (h:B):if decide c=true then A else B:=by
 rw[decide_eq_false hc]
 exact iteF h
theorem ϛ5 {c A B:Prop} [Decidable c] (hc:c) (h:A):if decide c=true then A else B:=by
 rw[decide_eq_true hc]
 exact iteT h
theorem ϕx {c A B:Prop} [Decidable c] (h1:c→A) (h2:¬ c→B):if decide c=true then A else B:=by
 by_cases h:c
 ·exact ϛ5 h (h1 h)
 ·exact iteD h (h2 h)
theorem ϟa {c A B:Prop} [Decidable c] (h1:¬ c→A) (h2:c→B):if (!decide c)=true then A else B:=by
 by_cases h:c
 ·rw[decide_eq_true h];exact iteF (h2 h)
 ·rw[decide_eq_false h];exact iteT (h1 h)
theorem ϖe {H:Hp}{p:Addr} (h:H p=none) (o:HO):Same H (upd H p o):=fun b u q=>by rw[ϖq (ϖn q h)];exact q
theorem ϲy {α:Type}{xs:List α}{i:Int} (h0:0≤i) (h1:i < xs.length):∃v,atI xs i=some v∧v∈xs:=by
 obtain⟨n,rfl⟩:=Int.eq_ofNat_of_zero_le h0
 have hn:n < xs.length:=by omega
 exact⟨xs[n],ϖQ (by rw[List.getElem?_eq_getElem hn]),List.getElem_mem hn⟩
theorem ϛh {α:Type}{xs:List α}{i:Int} (h0:0≤i) (h1:i < xs.length):∃v,atI xs i=some v∧xs[i.toNat]?=some v:=by
 obtain⟨n,rfl⟩:=Int.eq_ofNat_of_zero_le h0
 have hn:n < xs.length:=by omega
 exact⟨xs[n],ϖQ (by rw[List.getElem?_eq_getElem hn]),by simp[hn]⟩
theorem szl {n:Nat} (h:n≤100000):n≤sizeLine:=Nat.le_trans h (by rw[sizeLine_eq];decide)
end L3
namespace L3
open PySem PySem.Spec PyProof.Rows L2
theorem ϖ5 {K:PySem.W.Frag}{a:Addr}{xs:List V}{g:TG}{tb:TS}{D:Ends}{σ:L2.St}{H:Hp} (Pv:Nat→L2.St→Hp→Prop) (h0:Pv 0 σ H) (hl:∀i σ H,i≤xs.length→Pv i σ H→SqL K H a xs)
  (hs:∀(b:L2.St→Hp→Prop) (r:VK),b=D.nx→r=D.rt→∀i x σ H,xs[i]?=some x→Pv i σ H→g x σ H fun σ2 H2=>tb { nx:=Pv (i+1),rt:=r,bk:=b,ct:=Pv (i+1) } σ2 H2) (hd:∀σ H,Pv xs.length σ H→D.nx σ H) :
  ∃W:Nat→Nat→L2.St→Hp→Prop,(∃ m,W 0 m σ H)∧∀i m σ H,W i m σ H →
   ((Itl K a).stop i H∧D.nx σ H)∨((Itl K a).go i H∧∃N:L2.St→Hp→Prop,(∀ σ' H',N σ' H'→∃m',m' < m∧W (i+1) m' σ' H')∧∀x H',(Itl K a).yld i H x H'→g x σ H' fun σ2 H2=>tb { D with nx:=N,ct:=N,bk:=D.nx } σ2 H2):=ϝs Pv h0 hl (hs _ _ rfl rfl) hd
theorem ϕC {lo:Int}{n:Nat}{g:TG}{tb:TS}{D:Ends}{σ:L2.St}{H:Hp} (Pv:Nat→L2.St→Hp→Prop) (h0:Pv 0 σ H)
  (hs:∀(b:L2.St→Hp→Prop) (r:VK),b=D.nx→r=D.rt→∀i σ H,i < n→Pv i σ H→g (.int (lo+i)) σ H fun σ2 H2=>tb { nx:=Pv (i+1),rt:=r,bk:=b,ct:=Pv (i+1) } σ2 H2) (hd:∀σ H,Pv n σ H→D.nx σ H) :
  ∃W:Nat→Nat→L2.St→Hp→Prop,(∃ m,W 0 m σ H)∧∀i m σ H,W i m σ H →
   ((Itr lo n).stop i H∧D.nx σ H)∨((Itr lo n).go i H∧∃N:L2.St→Hp→Prop,(∀ σ' H',N σ' H'→∃m',m' < m∧W (i+1) m' σ' H')∧∀x H',(Itr lo n).yld i H x H'→g x σ H' fun σ2 H2=>tb { D with nx:=N,ct:=N,bk:=D.nx } σ2 H2):=ϡ6 Pv h0 (hs _ _ rfl rfl) hd
end L3
namespace L3
open PySem PySem.Spec PyProof.Rows L2 PySem.SeqAt
inductive D where
 |non|bl (b:Bool)|int (i:Int)|str (x:Str)|tup (xs:List D)|lst (xs:List D)
mutual
def Rep (K:PySem.W.Frag) (H:Hp):D→V→Prop
 |.non,v=>v=.non
 |.bl b,v=>v=.bl b
 |.int i,v=>v=.int i
 |.str x,v=>v=.str x
 |.tup ds,v=>∃a xs,v=.ref a∧SqT K H a xs∧Reps K H ds xs
 |.lst ds,v=>∃a xs,v=.ref a∧SqL K H a xs∧Reps K H ds xs
def Reps (K:PySem.W.Frag) (H:Hp):List D→List V→Prop
 |[],vs=>vs=[]
 |d::ds,vs=>∃v r,vs=v::r∧Rep K H d v∧Reps K H ds r
end
theorem Same.seqT {K:PySem.W.Frag}{H H':Hp}{a:Addr}{xs:List V} (e:Same H H') (h:SqT K H a xs):SqT K H' a xs:=by
 rcases h with (h|⟨o,h⟩)|h
 ·exact .inl (.inl (e _ _ h))
 ·exact .inl (.inr ⟨o,e _ _ h⟩)
 ·exact .inr h
mutual
theorem Rep.mono {K:PySem.W.Frag}{H H':Hp} (g:Same H H'):∀(d:D) (v:V),Rep K H d v→Rep K H' d v
 |.non,_,h=>by unfold Rep at h⊢;exact h
 |.bl _,_,h=>by unfold Rep at h⊢;exact h
 |.int _,_,h=>by unfold Rep at h⊢;exact h
 |.str _,_,h=>by unfold Rep at h⊢;exact h
 |.tup ds,_,h=>by
  unfold Rep at h⊢
  obtain⟨a,xs,e,q,r⟩:=h
  exact⟨a,xs,e,Same.seqT g q,Reps.mono g ds xs r⟩
 |.lst ds,_,h=>by
  unfold Rep at h⊢
  obtain⟨a,xs,e,q,r⟩:=h
  exact⟨a,xs,e,g.seq q,Reps.mono g ds xs r⟩
theorem Reps.mono {K:PySem.W.Frag}{H H':Hp} (g:Same H H'):∀(ds:List D) (vs:List V),Reps K H ds vs→Reps K H' ds vs
 |[],_,h=>by unfold Reps at h⊢;exact h
 |d::ds,_,h=>by
  unfold Reps at h⊢
  obtain⟨v,r,e,q,t⟩:=h
  exact⟨v,r,e,Rep.mono g d v q,Reps.mono g ds r t⟩
end
theorem Reps.nil {K:PySem.W.Frag}{H:Hp}:Reps K H [] []:=by unfold Reps;rfl
theorem Reps.cons {K:PySem.W.Frag}{H:Hp}{d:D}{v:V}{ds:List D}{vs:List V} (h:Rep K H d v) (t:Reps K H ds vs):Reps K H (d::ds) (v::vs):=by
 unfold Reps;exact⟨v,vs,rfl,h,t⟩
theorem Reps.inv {K:PySem.W.Frag}{H:Hp}{d:D}{ds:List D}{vs:List V} (h:Reps K H (d::ds) vs):∃v r,vs=v::r∧Rep K H d v∧Reps K H ds r:=by
 unfold Reps at h;exact h
theorem Reps.inv0 {K:PySem.W.Frag}{H:Hp}{vs:List V} (h:Reps K H [] vs):vs=[]:=by
 unfold Reps at h;exact h
theorem Reps.length {K:PySem.W.Frag}{H:Hp}:∀{ds:List D}{vs:List V},Reps K H ds vs→ds.length=vs.length
 |[],_,h=>by rw[h.inv0];rfl
 |d::ds,_,h=>by
  obtain⟨v,r,rfl,_,t⟩:=h.inv
  rw[List.length_cons,List.length_cons,Reps.length t]
mutual
def eqD:D→D→Bool
 |.non,.non=>true
 |.bl a,.bl b=>a == b
 |.bl a,.int b=>(if a then 1 else 0) == b
 |.int a,.bl b=>a == (if b then 1 else 0)
 |.int a,.int b=>a == b
 |.str a,.str b=>a == b
 |.tup xs,.tup ys=>eqDs xs ys
 |.lst xs,.lst ys=>eqDs xs ys
 |_,_=>false
def eqDs:List D→List D→Bool
 |[],[]=>true
 |x::xs,y::ys=>eqD x y && eqDs xs ys
 |_,_=>false
end
mutual
def deep:D→Nat
 |.tup xs=>ϰF xs+1
 |.lst xs=>ϰF xs+1
 |_=>0
def ϰF:List D→Nat
 |[]=>0
 |x::xs=>max (deep x) (ϰF xs)
end
mutual
theorem ϵK:∀d:D,eqD d d=true
 |.non=>by simp[eqD]
 |.bl b=>by simp[eqD]
 |.int i=>by simp[eqD]
 |.str x=>by simp[eqD]
 |.tup xs=>by rw[eqD];exact ϱ4 xs
 |.lst xs=>by rw[eqD];exact ϱ4 xs
theorem ϱ4:∀xs:List D,eqDs xs xs=true
 |[]=>by simp[eqDs]
 |x::xs=>by rw[eqDs,ϵK x,ϱ4 xs];rfl
end
mutual
def noB:D→Bool
 |.bl _=>false
 |.tup xs=>noBs xs
 |.lst xs=>noBs xs
 |_=>true
def noBs:List D→Bool
 |[]=>true
 |x::xs=>noB x && noBs xs
end
mutual
theorem eqD_eq:∀d e:D,noB d=true→noB e=true→eqD d e=true→d=e
 |.non,e,_,h2,h=>by cases e<;>simp_all [eqD]
 |.bl b,e,h1,_,_=>by simp[noB] at h1
 |.int i,e,_,h2,h=>by cases e<;>simp_all [eqD,noB]
 |.str x,e,_,h2,h=>by cases e<;>simp_all [eqD]
 |.tup xs,e,h1,h2,h=>by
  cases e<;>simp only[eqD,noB,Bool.false_eq_true] at h1 h2 h
  rw[ϲ1 _ _ h1 h2 h]
 |.lst xs,e,h1,h2,h=>by
  cases e<;>simp only[eqD,noB,Bool.false_eq_true] at h1 h2 h
  rw[ϲ1 _ _ h1 h2 h]
theorem ϲ1:∀xs ys:List D,noBs xs=true→noBs ys=true→eqDs xs ys=true→xs=ys
 |[],ys,_,_,h=>by cases ys<;>simp_all [eqDs]
 |x::xs,ys,h1,h2,h=>by
  cases ys with
  |nil=>simp[eqDs] at h
  |cons y ys=>
   simp only[eqDs,noBs,Bool.and_eq_true] at h1 h2 h
   rw[eqD_eq x y h1.1 h2.1 h.1,ϲ1 xs ys h1.2 h2.2 h.2]
end
def ϕt (xs ys:List D) (j:Nat):Bool:=match xs[j]?,ys[j]? with
 |some x,some y=>eqD x y
 |_,_=>false
theorem ϱy:∀xs ys:List D,eqDs xs ys=((List.range (min xs.length ys.length)).all (ϕt xs ys) && (xs.length == ys.length))
 |[],[]=>by simp[eqDs]
 |[],y::ys=>by simp[eqDs]
 |x::xs,[]=>by simp[eqDs]
 |x::xs,y::ys=>by
  have ih:=ϱy xs ys
  have e:min (x::xs).length (y::ys).length=min xs.length ys.length+1:=by simp only[List.length_cons];omega
  have p:ϕt (x::xs) (y::ys)∘Nat.succ=ϕt xs ys:=by
   funext j;simp[ϕt]
  rw[eqDs,e,List.range_succ_eq_map,List.all_cons,List.all_map,p,ih]
  have q:ϕt (x::xs) (y::ys) 0=eqD x y:=by simp[ϕt]
  have l:((x::xs).length == (y::ys).length)=(xs.length == ys.length):=by
   simp only[List.length_cons]
   by_cases h:xs.length=ys.length<;>simp[h]
  rw[q,l,Bool.and_assoc]
section
variable {X:Cx}{pins:List (Addr×Obj)}{σ:L2.St}{H:Hp}{s:Shared}
mutual
theorem Rep.inj (I:Inv X pins σ H s):∀(d e:D) (v:V),Rep X.K H d v→Rep X.K H e v→d=e
 |.non,e,v,h,k=>by unfold Rep at h;subst h;cases e<;>simp[Rep] at k<;>rfl
 |.bl b,e,v,h,k=>by unfold Rep at h;subst h;cases e<;>simp[Rep] at k;rw[k]
 |.int i,e,v,h,k=>by unfold Rep at h;subst h;cases e<;>simp[Rep] at k;rw[k]
 |.str x,e,v,h,k=>by unfold Rep at h;subst h;cases e<;>simp[Rep] at k;rw[k]
 |.tup ds,e,v,h,k=>by
  unfold Rep at h
  obtain⟨a,xs,rfl,q,r⟩:=h
  cases e with
  |tup es=>
   unfold Rep at k
   obtain⟨b,ys,e1,q2,r2⟩:=k
   cases e1
   have:=I.tuple_inj q q2
   subst this
   rw[Reps.inj I ds es xs r r2]
  |lst es=>
   unfold Rep at k
   obtain⟨b,ys,e1,q2,r2⟩:=k
   cases e1
   obtain⟨i1,_,t1,_⟩:=I.tuple q
   obtain⟨i2,_,t2,_⟩:=I.list q2
   exact absurd rfl (ne_of_list_tuple t2.isList (let ⟨o,h1,h2,n,h3⟩:=t1;⟨o,h1,h2,n,h3⟩))
  |_=>simp[Rep] at k
 |.lst ds,e,v,h,k=>by
  unfold Rep at h
  obtain⟨a,xs,rfl,q,r⟩:=h
  cases e with
  |lst es=>
   unfold Rep at k
   obtain⟨b,ys,e1,q2,r2⟩:=k
   cases e1
   have:=I.list_inj q q2
   subst this
   rw[Reps.inj I ds es xs r r2]
  |tup es=>
   unfold Rep at k
   obtain⟨b,ys,e1,q2,r2⟩:=k
   cases e1
   obtain⟨i1,_,t1,_⟩:=I.tuple q2
   obtain⟨i2,_,t2,_⟩:=I.list q
   exact absurd rfl (ne_of_list_tuple t2.isList (let ⟨o,h1,h2,n,h3⟩:=t1;⟨o,h1,h2,n,h3⟩))
  |_=>simp[Rep] at k
theorem Reps.inj (I:Inv X pins σ H s):∀(ds es:List D) (vs:List V),Reps X.K H ds vs→Reps X.K H es vs→ds=es
 |[],es,vs,h,k=>by
  rw[h.inv0] at k
  cases es with
  |nil=>rfl
  |cons e es=>obtain⟨_,_,z,_⟩:=k.inv;cases z
 |d::ds,es,vs,h,k=>by
  obtain⟨v,r,rfl,q,t⟩:=h.inv
  cases es with
  |nil=>have z:=k.inv0;cases z
  |cons e es=>
   obtain⟨_,_,z,q2,t2⟩:=k.inv
   cases z
   rw[Rep.inj I d e v q q2,Reps.inj I ds es r t t2]
end
end
end L3
namespace L3
open PySem PySem.Spec PyProof.Rows L2 PySem.SeqAt
section
variable {X:Cx}{pins:List (Addr×Obj)}{σ:L2.St}{H:Hp}{s:Shared}{A:Around}
theorem ϰe (A:Around):A.in1.units=A.units+1:=rfl
abbrev Elts (A:Around) (s:Shared) (xs ys:List V) (ds es:List D):Prop:=
 ∀us ws,Vals xs us→Vals ys ws→∀(j:Nat) v u,us[j]?=some v→ws[j]?=some u→EqAt A s v u (ϕt ds es j)
theorem ϝQ {a b:Addr}{xs ys:List V}{ds es:List D} (I:Inv X pins σ H s) (q:SqT X.K H a xs) (r:Reps X.K H ds xs) (q2:SqT X.K H b ys) (r2:Reps X.K H es ys) (hu:A.units < cLine) (he:Elts A.in1 s xs ys ds es) :
  RcAt A s (.ref a) (.ref b) (eqDs ds es)∧RcNeAt A s (.ref a) (.ref b) (!eqDs ds es):=by
 obtain⟨us,rv,t1,_⟩:=I.tuple q
 obtain⟨ws,rw',t2,_⟩:=I.tuple q2
 have l1:us.toArray.size=ds.length:=by rw[List.size_toArray,← rv.length,r.length]
 have l2:ws.toArray.size=es.length:=by rw[List.size_toArray,← rw'.length,r2.length]
 have el:∀j (h1:j < us.toArray.size) (h2:j < ws.toArray.size),EqAt A.in1 s us.toArray[j] ws.toArray[j] (ϕt ds es j):=fun j h1 h2=>
  he us ws rv rw' j _ _ (by simp at h1⊢) (by simp at h2⊢)
 have e:=RcAt.tuples (A:=A) (s:=s) (l:=a) (b:=b) t1 t2 hu el
 have n:=RcNeAt.tuples (A:=A) (s:=s) (l:=a) (b:=b) t1 t2 hu el
 rw[l1,l2,← ϱy] at e n
 exact⟨e,n⟩
theorem ϛc {a b:Addr}{xs ys:List V}{ds es:List D} (I:Inv X pins σ H s) (q:SqL X.K H a xs) (r:Reps X.K H ds xs) (q2:SqL X.K H b ys) (r2:Reps X.K H es ys) (hu:A.units < cLine) (he:Elts A.in1 s xs ys ds es) :
  RcAt A s (.ref a) (.ref b) (eqDs ds es)∧RcNeAt A s (.ref a) (.ref b) (!eqDs ds es):=by
 obtain⟨us,rv,t1,_⟩:=I.list q
 obtain⟨ws,rw',t2,_⟩:=I.list q2
 have l1:us.toArray.size=ds.length:=by rw[List.size_toArray,← rv.length,r.length]
 have l2:ws.toArray.size=es.length:=by rw[List.size_toArray,← rw'.length,r2.length]
 have el:∀j (h1:j < us.toArray.size) (h2:j < ws.toArray.size),EqAt A.in1 s us.toArray[j] ws.toArray[j] (ϕt ds es j):=fun j h1 h2=>
  he us ws rv rw' j _ _ (by simp at h1⊢) (by simp at h2⊢)
 by_cases hl:ds.length=es.length
 ·have e:=RcAt.lists (A:=A) (s:=s) (l:=a) (b:=b) t1.isList t2.isList (by omega) hu el
  have n:=RcNeAt.lists (A:=A) (s:=s) (l:=a) (b:=b) t1.isList t2.isList (by omega) hu el
  have z:eqDs ds es=(List.range ds.length).all (ϕt ds es):=by
   rw[ϱy,hl];simp
  rw[l1,← z] at e n
  exact⟨e,n⟩
 ·have hs:(us.toArray.size != ws.toArray.size)=true:=by rw[l1,l2];simpa using hl
  have e:=RcAt.lists_lengths (A:=A) (s:=s) (l:=a) (b:=b) t1.isList t2.isList hs hu
  have n:=RcNeAt.lists_lengths (A:=A) (s:=s) (l:=a) (b:=b) t1.isList t2.isList hs hu
  have z:eqDs ds es=false:=by
   rw[ϱy];simp[hl]
  rw[z]
  exact⟨e,n⟩
mutual
theorem eqAtD (I:Inv X pins σ H s):∀(d e:D) (A:Around) (v u:V) (v' u':Value),Rep X.K H d v→Rep X.K H e u→RelV v v'→RelV u u'→A.units+deep d < cLine→EqAt A s v' u' (eqD d e)
 |.non,e,A,v,u,v',u',hd,he,rv,ru,hu=>by
  unfold Rep at hd;subst hd;cases rv
  cases e<;>unfold Rep at he
  ·subst he;cases ru;exact EqAt.same _
  ·subst he;cases ru;exact EqAt.none_bool _
  ·subst he;obtain⟨t,rfl⟩:=ru;exact EqAt.none_int _ _
  ·subst he;obtain⟨t,rfl⟩:=ru;exact EqAt.none_str _ _
  ·obtain⟨a,xs,rfl,q,_⟩:=he;cases ru;obtain⟨_,_,t,_⟩:=I.tuple q;exact EqAt.none_tuple t (by omega)
  ·obtain⟨a,xs,rfl,q,_⟩:=he;cases ru;obtain⟨_,_,t,_⟩:=I.list q;exact EqAt.none_list t.isList (by omega)
 |.bl b,e,A,v,u,v',u',hd,he,rv,ru,hu=>by
  unfold Rep at hd;subst hd;cases rv
  cases e<;>unfold Rep at he
  ·subst he;cases ru;exact EqAt.bool_none _
  ·subst he;cases ru;exact EqAt.bool_bool _ _
  ·subst he;obtain⟨t,rfl⟩:=ru;exact EqAt.bool_int _ _ _
  ·subst he;obtain⟨t,rfl⟩:=ru;exact EqAt.bool_str _ _ _
  ·obtain⟨a,xs,rfl,q,_⟩:=he;cases ru;obtain⟨_,_,t,_⟩:=I.tuple q;exact EqAt.bool_tuple _ t (by omega)
  ·obtain⟨a,xs,rfl,q,_⟩:=he;cases ru;obtain⟨_,_,t,_⟩:=I.list q;exact EqAt.bool_list _ t.isList (by omega)
 |.int i,e,A,v,u,v',u',hd,he,rv,ru,hu=>by
  unfold Rep at hd;subst hd;obtain⟨t0,rfl⟩:=rv
  cases e<;>unfold Rep at he
  ·subst he;cases ru;exact EqAt.int_none _ _
  ·subst he;cases ru;exact EqAt.int_bool _ _ _
  ·subst he;obtain⟨t,rfl⟩:=ru;exact EqAt.int_int _ _ _ _
  ·subst he;obtain⟨t,rfl⟩:=ru;exact EqAt.int_str _ _ _ _
  ·obtain⟨a,xs,rfl,q,_⟩:=he;cases ru;obtain⟨_,_,t,_⟩:=I.tuple q;exact EqAt.int_tuple _ _ t (by omega)
  ·obtain⟨a,xs,rfl,q,_⟩:=he;cases ru;obtain⟨_,_,t,_⟩:=I.list q;exact EqAt.int_list _ _ t.isList (by omega)
 |.str x,e,A,v,u,v',u',hd,he,rv,ru,hu=>by
  unfold Rep at hd;subst hd;obtain⟨t0,rfl⟩:=rv
  cases e<;>unfold Rep at he
  ·subst he;cases ru;exact EqAt.str_none _ _
  ·subst he;cases ru;exact EqAt.str_bool _ _ _
  ·subst he;obtain⟨t,rfl⟩:=ru;exact EqAt.str_int _ _ _ _
  ·subst he;obtain⟨t,rfl⟩:=ru;exact EqAt.str_str _ _ _ _
  ·obtain⟨a,xs,rfl,q,_⟩:=he;cases ru;obtain⟨_,_,t,_⟩:=I.tuple q;exact EqAt.str_tuple _ _ t (by omega)
  ·obtain⟨a,xs,rfl,q,_⟩:=he;cases ru;obtain⟨_,_,t,_⟩:=I.list q;exact EqAt.str_list _ _ t.isList (by omega)
 |.tup ds,e,A,v,u,v',u',hd,he,rv,ru,hu=>by
  have hd0:=hd
  have he0:=he
  unfold Rep at hd
  obtain⟨a,xs,rfl,q,r⟩:=hd
  cases rv
  rw[deep] at hu
  obtain⟨_,_,t0,_⟩:=I.tuple q
  cases e<;>unfold Rep at he
  ·subst he;cases ru;exact EqAt.tuple_none t0 (by omega)
  ·subst he;cases ru;exact EqAt.tuple_bool _ t0 (by omega)
  ·subst he;obtain⟨t,rfl⟩:=ru;exact EqAt.tuple_int _ _ t0 (by omega)
  ·subst he;obtain⟨t,rfl⟩:=ru;exact EqAt.tuple_str _ _ t0 (by omega)
  ·rename_i es
   obtain⟨b,ys,rfl,q2,r2⟩:=he
   cases ru
   by_cases hab:a=b
   ·subst hab
    rw[Rep.inj I _ _ _ hd0 he0,ϵK]
    exact EqAt.same _
   ·rw[eqD]
    exact EqAt.of_refs hab (ϝQ I q r q2 r2 (by omega) fun us ws w1 w2 j v u e1 e2=>ϲm I ds es A.in1 xs ys us ws r r2 w1 w2 (by rw[ϰe];omega) j v u e1 e2).1
  ·obtain⟨b,ys,rfl,q2,r2⟩:=he
   cases ru
   obtain⟨_,_,t,_⟩:=I.list q2
   exact EqAt.tuple_list t0 t.isList (by omega)
 |.lst ds,e,A,v,u,v',u',hd,he,rv,ru,hu=>by
  have hd0:=hd
  have he0:=he
  unfold Rep at hd
  obtain⟨a,xs,rfl,q,r⟩:=hd
  cases rv
  rw[deep] at hu
  obtain⟨_,_,t0,_⟩:=I.list q
  cases e<;>unfold Rep at he
  ·subst he;cases ru;exact EqAt.list_none t0.isList (by omega)
  ·subst he;cases ru;exact EqAt.list_bool _ t0.isList (by omega)
  ·subst he;obtain⟨t,rfl⟩:=ru;exact EqAt.list_int _ _ t0.isList (by omega)
  ·subst he;obtain⟨t,rfl⟩:=ru;exact EqAt.list_str _ _ t0.isList (by omega)
  ·obtain⟨b,ys,rfl,q2,r2⟩:=he
   cases ru
   obtain⟨_,_,t,_⟩:=I.tuple q2
   exact EqAt.list_tuple t0.isList t (by omega)
  ·rename_i es
   obtain⟨b,ys,rfl,q2,r2⟩:=he
   cases ru
   by_cases hab:a=b
   ·subst hab
    rw[Rep.inj I _ _ _ hd0 he0,ϵK]
    exact EqAt.same _
   ·rw[eqD]
    exact EqAt.of_refs hab (ϛc I q r q2 r2 (by omega) fun us ws w1 w2 j v u e1 e2=>ϲm I ds es A.in1 xs ys us ws r r2 w1 w2 (by rw[ϰe];omega) j v u e1 e2).1
theorem ϲm (I:Inv X pins σ H s):∀(ds es:List D) (A:Around) (xs ys:List V) (us ws:List Value),Reps X.K H ds xs→Reps X.K H es ys→Vals xs us→Vals ys ws→A.units+ϰF ds < cLine →
  ∀(j:Nat) v u,us[j]?=some v→ws[j]?=some u→EqAt A s v u (ϕt ds es j)
 |[],es,A,xs,ys,us,ws,hd,he,rv,ru,hu,j,v,u,e1,e2=>by
  rw[hd.inv0] at rv;cases rv;simp at e1
 |d::ds,[],A,xs,ys,us,ws,hd,he,rv,ru,hu,j,v,u,e1,e2=>by
  rw[he.inv0] at ru;cases ru;simp at e2
 |d::ds,e::es,A,xs,ys,us,ws,hd,he,rv,ru,hu,j,v,u,e1,e2=>by
  obtain⟨x,xs,rfl,hx,hxs⟩:=hd.inv
  obtain⟨y,ys,rfl,hy,hys⟩:=he.inv
  rw[ϰF] at hu
  cases rv with
  |cons rv1 rv2=>
   cases ru with
   |cons ru1 ru2=>
    cases j with
    |zero=>
     simp at e1 e2
     subst e1 e2
     have p:ϕt (d::ds) (e::es) 0=eqD d e:=by simp[ϕt]
     rw[p]
     exact eqAtD I d e A x y _ _ hx hy rv1 ru1 (by omega)
    |succ j=>
     have p:ϕt (d::ds) (e::es) (j+1)=ϕt ds es j:=by simp[ϕt]
     rw[p]
     exact ϲm I ds es A xs ys _ _ hxs hys rv2 ru2 (by omega) j v u (by simpa using e1) (by simpa using e2)
end
theorem rcD (I:Inv X pins σ H s) (d e:D) {v u:V}{v' u':Value} (hd:Rep X.K H d v) (he:Rep X.K H e u) (rv:RelV v v') (ru:RelV u u') (hu:A.units+deep d < cLine):RcAt A s v' u' (eqD d e)∧RcNeAt A s v' u' (!eqD d e):=by
 cases d with
 |non=>
  unfold Rep at hd
  subst hd;cases rv
  cases e with
  |non=>
   unfold Rep at he
   subst he;cases ru
   exact⟨RcAt.none_none ,RcNeAt.none_none ⟩
  |bl b1=>
   unfold Rep at he
   subst he;cases ru
   exact⟨RcAt.none_bool _ ,RcNeAt.none_bool _ ⟩
  |int i1=>
   unfold Rep at he
   subst he;obtain⟨t1,rfl⟩:=ru
   exact⟨RcAt.none_int _ _ ,RcNeAt.none_int _ _ ⟩
  |str x1=>
   unfold Rep at he
   subst he;obtain⟨t1,rfl⟩:=ru
   exact⟨RcAt.none_str _ _ ,RcNeAt.none_str _ _ ⟩
  |tup es=>
   unfold Rep at he
   obtain⟨b,ys,rfl,q2,r2⟩:=he
   cases ru
   obtain⟨_,_,t1,_⟩:=I.tuple q2
   exact⟨RcAt.none_tuple t1 (by omega),RcNeAt.none_tuple t1 (by omega)⟩
  |lst es=>
   unfold Rep at he
   obtain⟨b,ys,rfl,q2,r2⟩:=he
   cases ru
   obtain⟨_,_,t1,_⟩:=I.list q2
   exact⟨RcAt.none_list t1.isList (by omega),RcNeAt.none_list t1.isList (by omega)⟩
 |bl b0=>
  unfold Rep at hd
  subst hd;cases rv
  cases e with
  |non=>
   unfold Rep at he
   subst he;cases ru
   exact⟨RcAt.bool_none _ ,RcNeAt.bool_none _ ⟩
  |bl b1=>
   unfold Rep at he
   subst he;cases ru
   exact⟨RcAt.bool_bool _ _ ,RcNeAt.bool_bool _ _ ⟩
  |int i1=>
   unfold Rep at he
   subst he;obtain⟨t1,rfl⟩:=ru
   exact⟨RcAt.bool_int _ _ _ ,RcNeAt.bool_int _ _ _ ⟩
  |str x1=>
   unfold Rep at he
   subst he;obtain⟨t1,rfl⟩:=ru
   exact⟨RcAt.bool_str _ _ _ ,RcNeAt.bool_str _ _ _ ⟩
  |tup es=>
   unfold Rep at he
   obtain⟨b,ys,rfl,q2,r2⟩:=he
   cases ru
   obtain⟨_,_,t1,_⟩:=I.tuple q2
   exact⟨RcAt.bool_tuple _ t1 (by omega),RcNeAt.bool_tuple _ t1 (by omega)⟩
  |lst es=>
   unfold Rep at he
   obtain⟨b,ys,rfl,q2,r2⟩:=he
   cases ru
   obtain⟨_,_,t1,_⟩:=I.list q2
   exact⟨RcAt.bool_list _ t1.isList (by omega),RcNeAt.bool_list _ t1.isList (by omega)⟩
 |int i0=>
  unfold Rep at hd
  subst hd;obtain⟨t0,rfl⟩:=rv
  cases e with
  |non=>
   unfold Rep at he
   subst he;cases ru
   exact⟨RcAt.int_none _ _ ,RcNeAt.int_none _ _ ⟩
  |bl b1=>
   unfold Rep at he
   subst he;cases ru
   exact⟨RcAt.int_bool _ _ _ ,RcNeAt.int_bool _ _ _ ⟩
  |int i1=>
   unfold Rep at he
   subst he;obtain⟨t1,rfl⟩:=ru
   exact⟨RcAt.int_int _ _ _ _ ,RcNeAt.int_int _ _ _ _ ⟩
  |str x1=>
   unfold Rep at he
   subst he;obtain⟨t1,rfl⟩:=ru
   exact⟨RcAt.int_str _ _ _ _ ,RcNeAt.int_str _ _ _ _ ⟩
  |tup es=>
   unfold Rep at he
   obtain⟨b,ys,rfl,q2,r2⟩:=he
   cases ru
   obtain⟨_,_,t1,_⟩:=I.tuple q2
   exact⟨RcAt.int_tuple _ _ t1 (by omega),RcNeAt.int_tuple _ _ t1 (by omega)⟩
  |lst es=>
   unfold Rep at he
   obtain⟨b,ys,rfl,q2,r2⟩:=he
   cases ru
   obtain⟨_,_,t1,_⟩:=I.list q2
   exact⟨RcAt.int_list _ _ t1.isList (by omega),RcNeAt.int_list _ _ t1.isList (by omega)⟩
 |str x0=>
  unfold Rep at hd
  subst hd;obtain⟨t0,rfl⟩:=rv
  cases e with
  |non=>
   unfold Rep at he
   subst he;cases ru
   exact⟨RcAt.str_none _ _ ,RcNeAt.str_none _ _ ⟩
  |bl b1=>
   unfold Rep at he
   subst he;cases ru
   exact⟨RcAt.str_bool _ _ _ ,RcNeAt.str_bool _ _ _ ⟩
  |int i1=>
   unfold Rep at he
   subst he;obtain⟨t1,rfl⟩:=ru
   exact⟨RcAt.str_int _ _ _ _ ,RcNeAt.str_int _ _ _ _ ⟩
  |str x1=>
   unfold Rep at he
   subst he;obtain⟨t1,rfl⟩:=ru
   exact⟨RcAt.str_str _ _ _ _ ,RcNeAt.str_str _ _ _ _ ⟩
  |tup es=>
   unfold Rep at he
   obtain⟨b,ys,rfl,q2,r2⟩:=he
   cases ru
   obtain⟨_,_,t1,_⟩:=I.tuple q2
   exact⟨RcAt.str_tuple _ _ t1 (by omega),RcNeAt.str_tuple _ _ t1 (by omega)⟩
  |lst es=>
   unfold Rep at he
   obtain⟨b,ys,rfl,q2,r2⟩:=he
   cases ru
   obtain⟨_,_,t1,_⟩:=I.list q2
   exact⟨RcAt.str_list _ _ t1.isList (by omega),RcNeAt.str_list _ _ t1.isList (by omega)⟩
 |tup ds=>
  unfold Rep at hd
  obtain⟨a,xs,rfl,q,r⟩:=hd
  cases rv
  rw[deep] at hu
  obtain⟨_,_,t0,_⟩:=I.tuple q
  cases e with
  |non=>
   unfold Rep at he
   subst he;cases ru
   exact⟨RcAt.tuple_none t0 (by omega),RcNeAt.tuple_none t0 (by omega)⟩
  |bl b1=>
   unfold Rep at he
   subst he;cases ru
   exact⟨RcAt.tuple_bool _ t0 (by omega),RcNeAt.tuple_bool _ t0 (by omega)⟩
  |int i1=>
   unfold Rep at he
   subst he;obtain⟨t1,rfl⟩:=ru
   exact⟨RcAt.tuple_int _ _ t0 (by omega),RcNeAt.tuple_int _ _ t0 (by omega)⟩
  |str x1=>
   unfold Rep at he
   subst he;obtain⟨t1,rfl⟩:=ru
   exact⟨RcAt.tuple_str _ _ t0 (by omega),RcNeAt.tuple_str _ _ t0 (by omega)⟩
  |tup es=>
   unfold Rep at he
   obtain⟨b,ys,rfl,q2,r2⟩:=he
   cases ru
   obtain⟨_,_,t1,_⟩:=I.tuple q2
   have z:=ϝQ I q r q2 r2 (A:=A) (by omega) fun us ws w1 w2 j v u e1 e2=>ϲm I ds es A.in1 xs ys us ws r r2 w1 w2 (by rw[ϰe];omega) j v u e1 e2
   rw[eqD];exact z
  |lst es=>
   unfold Rep at he
   obtain⟨b,ys,rfl,q2,r2⟩:=he
   cases ru
   obtain⟨_,_,t1,_⟩:=I.list q2
   exact⟨RcAt.tuple_list t0 t1.isList (by omega),RcNeAt.tuple_list t0 t1.isList (by omega)⟩
 |lst ds=>
  unfold Rep at hd
  obtain⟨a,xs,rfl,q,r⟩:=hd
  cases rv
  rw[deep] at hu
  obtain⟨_,_,t0,_⟩:=I.list q
  cases e with
  |non=>
   unfold Rep at he
   subst he;cases ru
   exact⟨RcAt.list_none t0.isList (by omega),RcNeAt.list_none t0.isList (by omega)⟩
  |bl b1=>
   unfold Rep at he
   subst he;cases ru
   exact⟨RcAt.list_bool _ t0.isList (by omega),RcNeAt.list_bool _ t0.isList (by omega)⟩
  |int i1=>
   unfold Rep at he
   subst he;obtain⟨t1,rfl⟩:=ru
   exact⟨RcAt.list_int _ _ t0.isList (by omega),RcNeAt.list_int _ _ t0.isList (by omega)⟩
  |str x1=>
   unfold Rep at he
   subst he;obtain⟨t1,rfl⟩:=ru
   exact⟨RcAt.list_str _ _ t0.isList (by omega),RcNeAt.list_str _ _ t0.isList (by omega)⟩
  |tup es=>
   unfold Rep at he
   obtain⟨b,ys,rfl,q2,r2⟩:=he
   cases ru
   obtain⟨_,_,t1,_⟩:=I.tuple q2
   exact⟨RcAt.list_tuple t0.isList t1 (by omega),RcNeAt.list_tuple t0.isList t1 (by omega)⟩
  |lst es=>
   unfold Rep at he
   obtain⟨b,ys,rfl,q2,r2⟩:=he
   cases ru
   obtain⟨_,_,t1,_⟩:=I.list q2
   have z:=ϛc I q r q2 r2 (A:=A) (by omega) fun us ws w1 w2 j v u e1 e2=>ϲm I ds es A.in1 xs ys us ws r r2 w1 w2 (by rw[ϰe];omega) j v u e1 e2
   rw[eqD];exact z
def rNeD (K:PySem.W.Frag):R2:=fun x y H Q=>∃d e,Rep K H d x∧Rep K H e y∧deep d≤60∧Q (.bl (!eqD d e)) H
theorem ϛf (hu:X.A.units+64 < cLine):OpR X (compareOp .NotEq) (rNeD X.K):=by
 intro pins s σ H x y v u Q I rx ry h
 obtain⟨d,e,hd,he,hz,q⟩:=h
 exact(rcD (A:=X.A) I d e hd he rx ry (by omega)).2 X.prog X.w X.xe _ ⟨.bl (!eqD d e),H,I,rfl,q⟩
noncomputable def absD (K:PySem.W.Frag) (H:Hp) (u:Value):D:=by
 classical exact if h:∃d v,RelV v u∧Rep K H d v then h.choose else .non
theorem ϟk {d:D}{v:V}{u:Value} (I:Inv X pins σ H s) (r:RelV v u) (h:Rep X.K H d v):absD X.K H u=d:=by
 have hx:∃d v,RelV v u∧Rep X.K H d v:=⟨d,v,r,h⟩
 unfold absD
 rw[dif_pos hx]
 obtain⟨v2,r2,h2⟩:=hx.choose_spec
 have:=r2.inj r
 subst this
 exact Rep.inj I _ _ _ h2 h
theorem ϡf {K:PySem.W.Frag}{H:Hp}{d:D} (f:Value→D):∀{ds:List D}{xs:List V}{us:List Value},Reps K H ds xs→Vals xs us→(∀ d v u,Rep K H d v→RelV v u→f u=d)→(us.any fun u=>eqD (f u) d)=ds.any fun e=>eqD e d
 |[],_,_,h,rv,_=>by rw[h.inv0] at rv;cases rv;rfl
 |e::ds,_,_,h,rv,hf=>by
  obtain⟨v,r,rfl,q,t⟩:=h.inv
  cases rv with
  |cons r1 r2=>rw[List.any_cons,List.any_cons,hf _ _ _ q r1,ϡf f t r2 hf]
theorem ϟb {K:PySem.W.Frag}{H:Hp}:∀{ds:List D}{xs:List V}{us:List Value},Reps K H ds xs→Vals xs us→∀u∈us,∃d v,Rep K H d v∧RelV v u∧deep d≤ϰF ds
 |[],_,_,h,rv,u,hu=>by rw[h.inv0] at rv;cases rv;cases hu
 |e::ds,_,_,h,rv,u,hu=>by
  obtain⟨v,r,rfl,q,t⟩:=h.inv
  cases rv with
  |cons r1 r2=>
   rw[ϰF]
   rcases List.mem_cons.mp hu with z|z
   ·subst z;exact⟨e,v,q,r1,by omega⟩
   ·obtain⟨d,w',a,b,c⟩:=ϟb t r2 u z
    exact⟨d,w',a,b,by omega⟩
def rInD (K:PySem.W.Frag) (neg:Bool):R2:=fun x y H Q=>∃d p xs ds,Rep K H d x∧y=.ref p∧SqL K H p xs∧Reps K H ds xs∧ϰF ds≤60∧Q (.bl (if neg then !ds.any (fun e=>eqD e d) else ds.any fun e=>eqD e d)) H
theorem ϱT (hu:X.A.units+64 < cLine):OpR X (compareOp .NotIn) (rInD X.K true):=by
 intro pins s σ H x y v u Q I rx ry h
 obtain⟨d,p,xs,ds,hd,rfl,hq,hr,hz,q⟩:=h
 cases ry
 obtain⟨its,rv,t,_⟩:=I.list hq
 refine notIn_listAt (fun u=>eqD (absD X.K H u) d) t.isList (fun z hz'=>?_) ?_
 ·obtain⟨e,w',a,b,c⟩:=ϟb hr rv z (by simpa using hz')
  have:=eqAtD I e d X.A.in1 w' x z v a hd b rx (by rw[ϰe];omega)
  rw[ϟk I b a]
  exact this
 ·refine⟨.bl _,H,I,rfl,?_⟩
  have e:=ϡf (d:=d) (absD X.K H) hr rv fun d v u a b=>ϟk I b a
  have e2:(its.toArray.any fun u=>eqD (absD X.K H u) d)=ds.any fun e=>eqD e d:=by rw[← e];simp
  rw[e2];exact q
end
end L3
namespace L3
open PySem PySem.Spec PyProof.Rows L2
def blk (X:Cx) (scope:Scope) (cl:List (Str×Addr)) (N':List Str) (C:Addr) (s₀:Shared) (H₀:Hp) (ex:List Addr) (pn:List (Addr×Obj)):Cx where
 prog:=X.prog
 w:=X.w
 K:=X.K
 mg:=X.mg
 base:=X.base
 A:=X.A
 N:=N'
 s₀:=s₀
 H₀:=H₀
 env:=compEnvC scope cl C X.env
 outer:=X.stack
 stack:=X.stack
 ex:=ex
 fn:=fun _=>false
 calm:=X.calm
 pn:=pn
 xe:=fun _ _=>False
abbrev lobj (its:List Value):Obj:={ cls:=.type "list",data:=.seq its.toArray its.length }
section
variable {X:Cx}{pins:List (Addr×Obj)}{σ:L2.St}{H:Hp}{s:Shared}
def PF (X:Cx) (ifs:List Expr) (t:TT):Prop:=∀(pins:List (Addr×Obj)) (s:Shared) (σ:L2.St) (H:Hp) (Q:Bool→Hp→Prop),Inv X pins σ H s→t σ H Q →
 wpAny (model X.prog X.w) X.A (forIn ifs true fun c r=>if r=true then do let ok ← isTrue c X.env (eval c X.env);pure (ForInStep.yield ok) else pure (ForInStep.yield r)) (TP X pins σ Q) X.xe s
def tTrue:TT:=fun _ H Q=>Q true H
theorem ϕr:PF X [] tTrue:=fun _ _ _ H _ I h=>wpAny_tests_nil ⟨H,I,h⟩
theorem Inv.track {D:Addr}{ys:List V}{its:List Value} (I:Inv X pins σ H s) (hD:H D=none) (ho:s.heap.get? D=some (lobj its)) (hv:Vals ys its) (hz:ys.length≤sizeLine)
  (h1:D∈X.ex∨X.s₀.heap.objs.size≤D) (h2:D≠X.env.locals) (h3:∀x c,X.env.cells.lookup x=some c→c≠D) (h4:∀p∈X.pn++pins,p.1≠D):Inv X pins σ (upd H D (.lst ys)) s:=by
 have old:∀b u,H b=some u→upd H D (.lst ys) b=some u:=fun b u e=>by rw[ϖq (ϖn e hD)];exact e
 refine I.step (g':=s.gens) (t':=s.toks) (d':=s.drawn) (h':=s.heap) (ch:=[D]) (fun b hb=>?_) (fun b o _ _ _ e _=>e) (fun b o _ _ _ e _=>⟨o.slots,e⟩) (fun b o hb _ n=>?_) (fun b o _ e=>⟨o,e⟩)
  (fun b xs e=>old b _ e) (fun b o u e=>old b _ e) (fun b ps e=>⟨#[],by rw[old b _ e];simp⟩) (fun m hm=>hm) (fun b u e=>?_) I.bare
 ·have e:b=D:=by simpa using hb
  subst e
  exact⟨h1,h2,h3,h4⟩
 ·rw[ϖq (by simpa using hb)];exact n
 ·by_cases hb:b=D
  ·subst hb
   rw[ϖd] at e;cases e
   exact⟨hz,its,its.length,hv,ho⟩
  ·rw[ϖq hb] at e
   exact(I.hok b u e).stay (fun c v _ q=>q) (fun c q=>old c _ q) fun c xs q=>old c _ q
def lend (js:List (Option Nat)) (σ:L2.St):L2.St:=js.map fun o=>o.bind fun j=>(σ[j]?).join
structure Blk (X:Cx) (scope:Scope) (cl:List (Str×Addr)) (N':List Str) (js:List (Option Nat)):Prop where
 clos:closureFor scope X.env=pure cl
 nocell:∀y∈scope.names,y.2≠.cell
 kind:scope.kind=.function
 names:∀y∈scope.names,y.2=.local→scope.names.lookup y.1=some .local
 sub:∀y c,cl.lookup y=some c→X.env.cells.lookup y=some c
 has:∀y,((relabel scope X.env).names.lookup y=some .cell∨(relabel scope X.env).names.lookup y=some .free)→∃c,cl.lookup y=some c
 len:js.length=N'.length
 lent:∀(i:Nat) y j,N'[i]?=some y→js[i]?=some (some j)→X.N[j]?=some y∧Vis X.env.scope y∧X.env.scope.names.lookup y≠some .local∧(relabel scope X.env).names.lookup y≠some .local
theorem ϛL {scope:Scope}{cl:List (Str×Addr)}{N':List Str}{js:List (Option Nat)}{fp:List Addr}{C:Addr}{h1:Heap}{m:Str→Option Value}{tk:Nat} (B:Blk X scope cl N' js) (I:Inv X pins σ H s) (f:∀b∈fp,FpOk X pins H b)
  (fo:∀b∈fp,∃o,s.heap.get? b=some o) (old:∀b o,s.heap.get? b=some o→h1.get? b=some o) (hns:h1.Ns C m) (hC:s.heap.objs.size≤C) :
  Inv (blk X scope cl N' C s H fp (X.pn++pins)) [] (lend js σ) H { s with heap:=h1,toks:=tk }:=by
 have ltC:∀b o,s.heap.get? b=some o→b≠C:=fun b o e=>Nat.ne_of_lt (Nat.lt_of_lt_of_le (Heap.lt_size e) hC)
 refine⟨⟨I.ok.mod,B.kind,I.ok.glob,I.ok.blt,hC,fun y z c e1 e2=>I.ok.inj y z c (B.sub y c e1) (B.sub z c e2),fun y hy=>B.has y hy,(fun y c e=>nomatch e),I.ok.hd,I.ok.frames,.inl rfl,fun b hb=>?_,I.bs,?_,fun b o e hb=>?_,fun b hb hs=>?_,I.stack,I.stkFree⟩,
  rfl,I.bare,Un.kept old,⟨m,hns,fun i y v e1 e2 e3=>?_⟩,fun y c e=>?_,I.hok.fresh hC,fun y c e=>I.freeC y c (B.sub y c e),fun p hp=>?_,I.hok.kept old,?_⟩
 ·obtain⟨o,e⟩:=fo b hb
  exact⟨ltC b o e,fun y c q=>(f b hb).2.2.2.2.1 y c (B.sub y c q)⟩
 ·exact Nat.le_trans I.ok.bsz I.sz
 ·rcases (f b hb).2.2.2.1 with z|z
  ·exact I.ok.noex b o e z
  ·exact absurd (Nat.lt_of_lt_of_le (Heap.lt_size (I.ok.bs b o e).1) z) (Nat.lt_irrefl _)
 ·rcases List.mem_cons.mp (I.stkSub b hs) with z|z
  ·exact(f b hb).2.1 z
  ·exact(f b hb).2.2.1 z
 ·have e2':(lend js σ)[i]?=some (some v):=e2
  unfold lend at e2'
  rw[List.getElem?_map] at e2'
  cases ej:js[i]? with
  |none=>rw[ej] at e2';cases e2'
  |some o=>
   rw[ej] at e2'
   cases o with
   |none=>cases e2'
   |some j=>
    obtain⟨n1,n2,n3,n4⟩:=B.lent i y j e1 ej
    have es:σ[j]?=some (some v):=by
     cases q:σ[j]? with
     |none=>rw[show(some (some j)).map _=_ from rfl] at e2';simp[q] at e2'
     |some z=>simp[q] at e2';rw[e2']
    obtain⟨m0,hn0,hl0⟩:=I.loc
    obtain⟨u,r,l⟩:=hl0 j y v n1 es n2
    refine⟨u,r,?_⟩
    rcases l with⟨k,_⟩|⟨k,c,ec,z⟩
    ·exact absurd k n3
    ·have k':(relabel scope X.env).names.lookup y=some .cell∨(relabel scope X.env).names.lookup y=some .free:=by
      rcases e3 with q|q
      ·exact absurd q n4
      ·exact q
     obtain⟨c',ec'⟩:=B.has y k'
     have:=B.sub y c' ec'
     rw[ec] at this;cases this
     obtain⟨oc,hoc,hd⟩:=z
     exact .inr ⟨k',c,ec',oc,old _ _ hoc,hd⟩
 ·obtain⟨v,oc,hoc,hd⟩:=I.cell y c (B.sub y c e)
  exact⟨v,oc,old _ _ hoc,hd⟩
 ·have hp':p∈X.pn++pins:=by simpa [blk] using hp
  obtain⟨e,n,ne,nf,d⟩:=I.pin p hp'
  refine⟨old _ _ e,n,ltC _ _ e,fun hs=>?_,d⟩
  rcases List.mem_cons.mp (I.stkSub p.1 hs) with z|z
  ·exact ne z
  ·exact nf z
 ·show(lend js σ).length=N'.length
  unfold lend
  rw[List.length_map,B.len]
theorem ϰE {prog:Program}{w:World}{A:Around}{R:Result→Shared→Prop}{s:Shared}{elt target iter:Expr}{ifs:List Expr}{scope:Scope}{pos:Pos}{it acc:Value}{env:Env} (I:Nat→Shared→Prop)
  (turn:∀n s,I n s→wpAny (model prog w) A (pyNext it) (fun r s₁=>match r with
   |none=>R (.ok .next) s₁
   |some v=>wpAny (model prog w) A (letOwnedTupleGo target it v) (fun _ s₁'=>wpAny (model prog w) A (assign target env v) (fun _ s₂=>
     wpAny (model prog w) A (forIn ifs true fun c r=>if r=true then do let ok ← isTrue c env (eval c env);pure (ForInStep.yield ok) else pure (ForInStep.yield r)) (fun ok s₃=>
      if ok=true then wpAny (model prog w) A (eval elt env) (fun x s₄=>
       wpAny (model prog w) A (call (.builtin "list.append") [acc,x]) (fun _ s₅=>∃m,m < n∧I m s₅) (fun _ _=>False) s₄) (fun _ _=>False) s₃
      else ∃m,m < n∧I m s₃) (fun _ _=>False) s₂) (fun _ _=>False) s₁') (fun _ _=>False) s₁) (fun _ _=>False) s)
  (n:Nat) (h:I n s) :
  codeAny (model prog w) A (.compLoop (.ListComp elt [⟨target,iter,ifs,0⟩] scope pos) 0 it acc env) R s:=by
 refine codeAny_loop rfl I (fun n s hI=>?_) n h
 show wpAny _ A ((compTurn (.ListComp elt [⟨target,iter,ifs,0⟩] scope pos) 0 it acc env).onRaise (fun x=>do noteFrame x env;theTreesLotGoes x)) _ _ s
 refine wpAny_noted ?_
 rw[compTurn_list]
 refine wpAny_bind (wpAny_standAt (wpAny_bind (wpAny_mono (turn n s hI) (fun r s₁ h₁=>?_) fun _ _ f=>f.elim)))
 cases r with
 |none=>exact wpAny_pure h₁
 |some v=>
  refine wpAny_bind (wpAny_mono h₁ (fun _ s₁' h₁'=>?_) fun _ _ f=>f.elim)
  refine wpAny_bind (wpAny_mono h₁' (fun _ s₂ h₂=>wpAny_bind (wpAny_mono h₂ (fun ok s₃ h₃=>?_) fun _ _ f=>f.elim)) fun _ _ f=>f.elim)
  cases ok with
  |false=>exact wpAny_pure ⟨rfl,h₃⟩
  |true=>
   exact wpAny_bind (wpAny_bind (wpAny_mono h₃ (fun x s₄ h₄=>wpAny_bind (wpAny_mono h₄ (fun _ s₅ h₅=>wpAny_pure (wpAny_pure ⟨rfl,h₅⟩)) fun _ _ f=>f.elim)) fun _ _ f=>f.elim))
def ϵf (J:It) (g:TG) (tf:TT) (te:TE) (Q:VK) (τ0:L2.St) (H1:Hp):Prop:=∃W:Nat→Nat→List V→L2.St→Hp→Prop,(∃ m,W 0 m [] τ0 H1)∧∀i m ys τ H,W i m ys τ H →
 (J.stop i H∧∀p,H p=none→Q (.ref p) (upd H p (.lst ys)))∨(J.go i H∧∃Nx:List V→L2.St→Hp→Prop,(∀ ys' τ' H',Nx ys' τ' H'→∃m',m' < m∧W (i+1) m' ys' τ' H') ∧
  ∀v H',J.yld i H v H'→g v τ H' fun τ2 H2=>tf τ2 H2 fun b H3=>if b=true then te τ2 H3 fun y H4=>ys.length < sizeLine∧Nx (ys++[y]) τ2 H4 else Nx ys τ2 H3)
def tComp (js:List (Option Nat)) (wi:TI) (g:TG) (tf:TT) (te:TE):TE:=fun σ H Q=>wi σ H fun J H1=>ϵf J g tf te Q (lend js σ) H1
theorem ϲw {elt iter tg:Expr}{ifs:List Expr}{scope:Scope}{pos:Pos}{cl:List (Str×Addr)}{N':List Str}{js:List (Option Nat)}{g:TG}{tf:TT}{te:TE}{RR:Value→Addr→Result→Shared→Prop}{Qv:VK}{E:Value→Shared→Prop}{it:Addr}{fp:List Addr}{tn:Nat→Heap→Prop}{J:It}{H2:Hp}{s2:Shared}
  (hc:X.calm=true) (B:Blk X scope cl N' js) (hg:∀C s₀ H₀ ex pn,PG (blk X scope cl N' C s₀ H₀ ex pn) tg g) (hf:∀C s₀ H₀ ex pn,PF (blk X scope cl N' C s₀ H₀ ex pn) ifs tf) (he:∀C s₀ H₀ ex pn,PE (blk X scope cl N' C s₀ H₀ ex pn) elt te)
  (I2:Inv X pins σ H2 s2) (T:Turn X.prog X.w X.K tg J fp it tn) (st2:tn 0 s2.heap) (f2:∀b∈fp,FpOk X pins H2 b) (cg:ϵf J g tf te Qv (lend js σ) H2)
  (fin:∀(Dd Cc:Addr) (m:Str→Option Value) (s4:Shared) (Hx:Hp),Inv X pins σ Hx s4→Qv (.ref Dd) Hx→s4.heap.Ns Cc m→Hx Cc=none→Cc≠X.env.locals→X.s₀.heap.objs.size≤Cc→(∀ x c,X.env.cells.lookup x=some c→c≠Cc)→(∀ p∈X.pn++pins,p.1≠Cc) →
   RR (.ref Dd) Cc (.ok .next) s4) :
  wpAny (model X.prog X.w) X.A (newList []) (fun acc s₃=>wpAny (model X.prog X.w) X.A (newFunctionEnv scope X.env.globals cl [] X.env.qual none .none (some X.env)) (fun cenv s₄=>
   codeAny (model X.prog X.w) X.A (.compStart (.ListComp elt [⟨tg,iter,ifs,0⟩] scope pos) 0 (.ref it) acc { cenv with scope:=relabel scope X.env }) (RR acc cenv.locals) s₄) E s₃) E s2:=by
 obtain⟨W,⟨m0,w0⟩,turn⟩:=cg
 refine wpAny_newObj_type (wpAny_newFunctionEnv B.nocell (by intro y hy;simp at hy) (fun h₁ hns₁ hsb₁=>?_) B.kind)
 dsimp only at hns₁ hsb₁⊢
 generalize hG:s2.heap.push { cls:=.type "list",dict:=none,data:=.seq ([]:List Value).toArray }=G at hns₁ hsb₁⊢
 have hC:G.objs.size=s2.heap.objs.size+1:=by rw[← hG,Heap.size_push]
 have hDC:s2.heap.objs.size≠G.objs.size:=by rw[hC];exact Nat.ne_of_lt (Nat.lt_succ_self _)
 have below:∀b,b < s2.heap.objs.size→b≠G.objs.size∧b≠s2.heap.objs.size:=fun b hb=>⟨by rw[hC];exact Nat.ne_of_lt (Nat.lt_succ_of_lt hb),Nat.ne_of_lt hb⟩
 have old:∀b o,s2.heap.get? b=some o→h₁.get? b=some o:=fun b o e=>hsb₁.extBut b o (below b (Heap.lt_size e)).1 (Heap.get?_push_of_some _ (hG▸Heap.get?_push_of_some _ e))
 have hacc:h₁.get? s2.heap.objs.size=some (lobj []):=hsb₁.extBut _ _ hDC (Heap.get?_push_of_some _ (hG▸Heap.get?_push_size _ rfl))
 have fo:∀b∈fp,∃o,s2.heap.get? b=some o:=fun b hb=>let ⟨o,e,_⟩:=T.obj 0 _ st2 b hb;⟨o,e⟩
 have I4:=ϛL (tk:=s2.toks+([]:List (Str×Value)).length) B I2 f2 fo old hns₁ (by rw[hC];exact Nat.le_succ _)
 generalize hD:s2.heap.objs.size=Dd at *
 generalize hCC:G.objs.size=Cc at *
 have st4:tn 0 h₁:=T.keep 0 _ _ st2 fun b _ o e=>old b o e
 have fpne:∀b∈fp,b≠Dd:=fun b hb=>let ⟨o,e⟩:=fo b hb;by rw[← hD];exact Nat.ne_of_lt (Heap.lt_size e)
 have hDfree:H2 Dd=none:=I2.hok.fresh (by rw[hD];exact Nat.le_refl _)
 have hDfs:Dd∉frs X.stack:=fun hb=>by
  rcases List.mem_cons.mp (I2.stkSub _ hb) with z|z
  ·have:=I2.lt;rw[← z,hD] at this;exact Nat.lt_irrefl _ this
  ·exact I2.nofs (a:=Dd) (by rw[hD];exact Nat.le_refl _) z
 have hDcell:∀x c,X.env.cells.lookup x=some c→c≠Dd:=fun x c e z=>by
  obtain⟨v,q⟩:=I2.cell x c e
  have:=q.lt
  rw[z,← hD] at this;exact Nat.lt_irrefl _ this
 have hDpin:∀p∈X.pn++pins,p.1≠Dd:=fun p hp z=>by
  have:=Heap.lt_size (I2.pin p hp).1
  rw[z,← hD] at this;exact Nat.lt_irrefl _ this
 generalize hXb:blk X scope cl N' Cc s2 H2 fp (X.pn++pins)=Xb at I4
 have xP:Xb.prog=X.prog:=by rw[← hXb];rfl
 have xW:Xb.w=X.w:=by rw[← hXb];rfl
 have xK:Xb.K=X.K:=by rw[← hXb];rfl
 have xA:Xb.A=X.A:=by rw[← hXb];rfl
 have xC:Xb.calm=true:=by rw[← hXb];exact hc
 have xL:Xb.env.locals=Cc:=by rw[← hXb];rfl
 have xFs:Xb.fs=frs X.stack:=by rw[← hXb];rfl
 have xEx:Xb.ex=fp:=by rw[← hXb];rfl
 have xPn:Xb.pn=X.pn++pins:=by rw[← hXb];rfl
 have xS:Xb.s₀=s2:=by rw[← hXb];rfl
 have xH:Xb.H₀=H2:=by rw[← hXb];rfl
 have xCl:∀y c,Xb.env.cells.lookup y=some c→X.env.cells.lookup y=some c:=by rw[← hXb];exact B.sub
 have xE:Xb.env=compEnvC scope cl Cc X.env:=by rw[← hXb];rfl
 have xX:Xb.xe=fun _ _=>False:=by rw[← hXb];rfl
 have hg':PG Xb tg g:=by rw[← hXb];exact hg _ _ _ _ _
 have hf':PF Xb ifs tf:=by rw[← hXb];exact hf _ _ _ _ _
 have he':PE Xb elt te:=by rw[← hXb];exact he _ _ _ _ _
 have fok:∀{H':Hp}{o:Obj},(∀ b∈fp,H' b=none)→∀b∈fp,FpOk Xb [(Dd,o)] H' b:=fun {H' o} hn b hb=>by
  obtain⟨o',e'⟩:=fo b hb
  refine⟨hn b hb,?_,?_,.inl (by rw[xEx];exact hb),fun y c q=>(f2 b hb).2.2.2.2.1 y c (xCl y c q),fun p hp=>?_⟩
  ·rw[xL];exact(below b (by have:=Heap.lt_size e';rw[hD] at this;exact this)).1
  ·rw[xFs]
   intro hs
   rcases List.mem_cons.mp (I2.stkSub b hs) with z|z
   ·exact(f2 b hb).2.1 z
   ·exact(f2 b hb).2.2.1 z
  ·rw[xPn] at hp
   rcases List.mem_append.mp hp with z|z
   ·exact(f2 b hb).2.2.2.2.2 p z
   ·rw[List.mem_singleton.mp z];exact(fpne b hb).symm
 have hDC':Dd≠Cc:=by rw[← hD,← hCC];rw[← hCC,← hD] at hDC;exact hDC
 have loop:codeAny (model X.prog X.w) X.A (.compLoop (.ListComp elt [⟨tg,iter,ifs,0⟩] scope pos) 0 (.ref it) (.ref Dd) (compEnvC scope cl Cc X.env)) (RR (.ref Dd) Cc)
   { s2 with heap:=h₁,toks:=s2.toks+([]:List (Str×Value)).length }:=by
  refine ϰE (fun n s'=>∃i ys τ H' its,Inv Xb [(Dd,lobj its)] τ H' s'∧tn i s'.heap∧(∀ b∈fp,H' b=none)∧Vals ys its∧ys.length≤sizeLine∧W i n ys τ H') ?_ m0
   ⟨0,[],_,H2,[],I4.pins_of (fun p hp=>?_),st4,fun b hb=>(f2 b hb).1,.nil,Nat.zero_le _,w0⟩
  ·rintro n s3 ⟨i,ys,τ,H3,its,I3,st3,fr3,hv,hz,w3⟩
   have pD:=I3.pin (Dd,lobj its) (List.mem_append_right _ (List.mem_singleton.mpr rfl))
   rcases turn i n ys τ H3 w3 with⟨stop,qn⟩|⟨go,Nx,hN,step⟩
   ·have hd:=T.done Xb xP xW xK xC i [(Dd,lobj its)] s3 τ H3 (fun _ _=>False) I3 (fok fr3) st3 stop
    rw[xA] at hd
    refine thn hd fun r s4 ⟨hr,I5⟩=>?_
    subst hr
    obtain⟨m,hn,_⟩:=id I5.loc
    rw[xL] at hn
    have pD5:=I5.pin (Dd,lobj its) (List.mem_append_right _ (List.mem_singleton.mpr rfl))
    have ub:=I5.base
    rw[xFs,xEx,xS,xH] at ub
    have hfC:H3 Cc=none:=by have:=I5.free;rw[xL] at this;exact this
    have ok5:HOk X.prog X.w H3 s4.heap:=by have:=I5.hok;rw[xP,xW] at this;exact this
    have IX:Inv X pins σ H3 s4:=I2.call' (s':=s4) (by rw[I5.os,xS]) ub ok5 I5.bare fun b hb=>⟨(f2 b hb).2.2.2.1,(f2 b hb).2.1,(f2 b hb).2.2.2.2.1,(f2 b hb).2.2.2.2.2⟩
    have hlo:X.s₀.heap.objs.size≤Dd:=by rw[← hD];exact I2.sz
    have hloL:Dd≠X.env.locals:=fun z=>by have:=I2.lt;rw[← z,hD] at this;exact Nat.lt_irrefl _ this
    have hCD:Dd≤Cc:=by omega
    refine fin Dd Cc m s4 (upd H3 Dd (.lst ys)) (L3.Inv.track IX pD5.2.1 pD5.1 hv hz (.inr hlo) hloL hDcell hDpin) (qn Dd pD5.2.1) hn (by rw[ϖq hDC'.symm];exact hfC) ?_ (Nat.le_trans hlo hCD) ?_ ?_
    ·intro z;have:=I2.lt;rw[← z,hD] at this;exact Nat.lt_irrefl _ (Nat.lt_of_lt_of_le this hCD)
    ·intro x c e z
     obtain⟨v,q⟩:=I2.cell x c e
     have:=q.lt
     rw[z,hD] at this;exact Nat.lt_irrefl _ (Nat.lt_of_lt_of_le this hCD)
    ·intro p hp z
     have:=Heap.lt_size (I2.pin p hp).1
     rw[z,hD] at this;exact Nat.lt_irrefl _ (Nat.lt_of_lt_of_le this hCD)
   ·have hit:=T.item Xb xP xW xK xC i [(Dd,lobj its)] s3 τ H3 (fun _ _=>False) I3 (fok fr3) st3 go
    rw[xA] at hit
    refine thn hit fun r s4 ⟨u,hr,h4⟩=>?_
    subst hr
    refine thn h4 fun _ s5 ⟨x,H5,I5,r5,y5,st5,fr5⟩=>?_
    have I5':=I5.pinned (fok fr5) (T.obj _ _ st5)
    have ga:=hg' _ s5 τ H5 x u _ I5' r5 (step x H5 y5)
    rw[xP,xW,xA,xE,xX] at ga
    refine thn ga fun _ s6 ⟨τ6,H6,I6,q6⟩=>?_
    have fa:=hf' _ s6 τ6 H6 _ I6 q6
    rw[xP,xW,xA,xE,xX] at fa
    refine thn fa fun ok s7 ⟨H7,I7,q7⟩=>?_
    have back:∀{τ8:L2.St}{H8:Hp}{s8:Shared},Inv Xb ([(Dd,lobj its)]++ϵZ fp s5.heap) τ8 H8 s8→tn (i+1) s8.heap∧(∀ b∈fp,H8 b=none):=fun {τ8 H8 s8} I8=>
     ⟨T.keep _ _ _ st5 fun b hb o e=>(I8.pin (b,o) (List.mem_append_right _ (List.mem_append_right _ (ϰs hb e)))).1,fun b hb=>by
      obtain⟨o,e,d⟩:=T.obj _ _ st5 b hb
      exact(I8.pin (b,o) (List.mem_append_right _ (List.mem_append_right _ (ϰs hb e)))).2.1⟩
    cases ok with
    |false=>
     rw[if_neg (by simp)] at q7⊢
     obtain⟨m',hm,w7⟩:=hN _ _ _ q7
     obtain⟨b1,b2⟩:=back I7
     exact⟨m',hm,i+1,ys,τ6,H7,its,I7.unpinned,b1,b2,hv,hz,w7⟩
    |true=>
     rw[if_pos rfl] at q7⊢
     have ea:=he' _ s7 τ6 H7 _ I7 q7
     rw[xP,xW,xA,xE,xX] at ea
     refine thn ea fun yv s8 ⟨y,H8,I8,r8,hlt,n8⟩=>?_
     have pD8:=I8.pin (Dd,lobj its) (List.mem_append_right _ (List.mem_append_left _ (List.mem_singleton.mpr rfl)))
     have hil:its.length=ys.length:=hv.length.symm
     refine append_at (hsz:=by rw[List.size_toArray];omega) pD8.1 fun h' hs' ho'=>?_
     obtain⟨m',hm,w8⟩:=hN _ _ _ n8
     obtain⟨b1,b2⟩:=back I8
     have J1:Inv Xb [] τ6 H8 s8:=I8.pins_of (fun p hp=>nomatch hp)
     have J2:Inv Xb [] τ6 H8 { s8 with heap:=h' }:=J1.turned (t':=s8.toks) (it:=Dd) (fun b o hb e=>(hs'.2 b hb).trans e) pD8.2.1 pD8.2.2.1 (.inr (by rw[xS,hD];exact Nat.le_refl _)) (fun y c q=>hDcell y c (xCl y c q)) fun p hp=>by
      rw[xPn,List.append_nil] at hp
      exact hDpin p hp
     refine⟨m',hm,i+1,ys++[y],τ6,H8,its++[yv],J2.pins_of fun p hp=>?_,T.keep _ _ _ b1 fun b hb o e=>(hs'.2 b (fpne b hb)).trans e,b2,hv.append (.cons r8 .nil),by rw[List.length_append,List.length_singleton];omega,w8⟩
     rw[List.mem_singleton.mp hp]
     refine⟨?_,pD8.2.1,pD8.2.2.1,pD8.2.2.2.1,fun v z=>nomatch z⟩
     show h'.get? Dd=some (lobj (its++[yv]))
     rw[ho']
     show some ({ cls:=.type "list",data:=.seq (its.toArray.push yv) (its.length+1) }:Obj)=some { cls:=.type "list",data:=.seq (its++[yv]).toArray (its++[yv]).length }
     rw[List.length_append,List.length_singleton,List.push_toArray]
  ·rw[List.mem_singleton.mp hp]
   refine⟨hacc,hDfree,?_,?_,fun v z=>nomatch z⟩
   ·rw[xL];rw[← hCC,← hD];rw[← hCC,← hD] at hDC;exact hDC
   ·rw[xFs];exact hDfs
 exact codeAny_compStart_list loop (T.self X.A 0 _ _ _ st4 loop)
theorem ϕT {elt iter tg:Expr}{ifs:List Expr}{scope:Scope}{pos:Pos}{cl:List (Str×Addr)}{N':List Str}{js:List (Option Nat)}{wi:TI}{g:TG}{tf:TT}{te:TE} (hc:X.calm=true) (B:Blk X scope cl N' js) (hi:PI X tg iter wi)
  (hg:∀C s₀ H₀ ex pn,PG (blk X scope cl N' C s₀ H₀ ex pn) tg g) (hf:∀C s₀ H₀ ex pn,PF (blk X scope cl N' C s₀ H₀ ex pn) ifs tf) (he:∀C s₀ H₀ ex pn,PE (blk X scope cl N' C s₀ H₀ ex pn) elt te)
  (hs:∀x,foldedSetIterable iter X.env x=pure x:=by intro _;rfl):PE X (.ListComp elt [⟨tg,iter,ifs,0⟩] scope pos) (tComp js wi g tf te):=by
 intro pins s σ H Q I h
 rw[eval_ListComp]
 refine wpAny_comprehension_free (use:=none) rfl hs B.clos B.kind B.names (thn (hi pins s σ H _ I h) fun xv s1 h1=>thn h1 fun itv s2 h2=>?_)
 obtain⟨it,fp,tn,J,H2,e,I2,T,st2,f2,cg⟩:=h2
 subst e
 refine ϲw (RR:=fun acc C=>compPost (model X.prog X.w) X.A X.xe none (EP X pins σ Q) acc C) hc B hg hf he I2 T st2 f2 cg ?_
 intro Dd Cc m s4 Hx IX q hn hC cL cS cC cP
 refine⟨m,hn,fun h' hs'=>⟨.ref Dd,Hx,?_,rfl,q⟩⟩
 exact IX.turned (t':=s4.toks) (it:=Cc) (fun b o hb e=>(hs'.2 b hb).trans e) hC cL (.inr cS) cC cP
theorem ϕF {i:Nat}{y:Str}{elt iter tg:Expr}{ifs:List Expr}{scope:Scope}{pos spos py:Pos}{cl:List (Str×Addr)}{N':List Str}{js:List (Option Nat)}{wi:TI}{g:TG}{tf:TT}{te:TE} (hN:X.N.Nodup) (hy:X.N[i]?=some y) (hx:Loc X.env.scope y)
  (hsw:swapsWith (.ListComp elt [⟨tg,iter,ifs,0⟩] scope pos) (some (.Name y py)) spos.line X.env=pure true) (hc:X.calm=true) (B:Blk X scope cl N' js) (hi:PI X tg iter wi)
  (hg:∀C s₀ H₀ ex pn,PG (blk X scope cl N' C s₀ H₀ ex pn) tg g) (hf:∀C s₀ H₀ ex pn,PF (blk X scope cl N' C s₀ H₀ ex pn) ifs tf) (he:∀C s₀ H₀ ex pn,PE (blk X scope cl N' C s₀ H₀ ex pn) elt te)
  (hs:∀x,foldedSetIterable iter X.env x=pure x:=by intro _;rfl) (hfn:X.fn y=true∨X.env.scope.names.lookup y=some .local:=by first|exact .inl rfl|exact .inr rfl|assumption) :
  PS X (.Assign [.Name y py] (.ListComp elt [⟨tg,iter,ifs,0⟩] scope pos) spos) (tAsg (tComp js wi g tf te) (ϱp i)):=by
 intro pins s σ H D I h
 rw[exec_Assign_Name_used _ _ _ _ hsw]
 refine wpAny_bind (wpAny_standAt (wpAny_bind ?_))
 show wpAny _ X.A (do let _ ← comprehension (.ListComp elt [⟨tg,iter,ifs,0⟩] scope pos) scope X.env _ (newList []) false (eval iter X.env) (some (assign (.Name y py) X.env))) _ _ s
 refine wpAny_bind (wpAny_mono (wpAny_comprehension_free (use:=some (assign (.Name y py) X.env)) (Q:=fun _ s'=>SP X pins D .next s') rfl hs B.clos B.kind B.names
  (thn (hi pins s σ H _ I h) fun xv s1 h1=>thn h1 fun itv s2 h2=>?_)) (fun _ s' hq=>wpAny_pure (wpAny_pure hq)) fun _ _ e=>e)
 obtain⟨it,fp,tn,J,H2,e,I2,T,st2,f2,cg⟩:=h2
 subst e
 refine ϲw (RR:=fun acc C=>compPost (model X.prog X.w) X.A X.xe (some (assign (.Name y py) X.env)) (fun _ s'=>SP X pins D .next s') acc C) hc B hg hf he I2 T st2 f2 cg ?_
 intro Dd Cc m s4 Hx IX q hn hC cL cS cC cP
 show wpAny _ X.A (assign (.Name y py) X.env (.ref Dd)) _ _ _
 refine wpAny_assign_Name (ϲh IX hN hy hx (v:=.ref Dd) rfl (fun s5 I5 ⟨b,hb,hb'⟩=>?_) hfn)
 have hCb:Cc≠b:=fun z=>by
  rcases hb' with w|w
  ·exact cL (z.trans w)
  ·exact cC y b w z.symm
 refine⟨m,hn.sameBut hb hCb,fun h' hs'=>⟨_,Hx,I5.turned (t':=s5.toks) (it:=Cc) (fun b o hb e=>(hs'.2 b hb).trans e) hC cL (.inr cS) cC cP,q⟩⟩
end
def capt (env:Env):List (Str×NameKind)→List (Str×Addr)→List (Str×Addr)
 |[],acc=>acc
 |(n,k)::r,acc=>capt env r (if k == .free then (match env.cells.lookup n with|some c=>(n,c)::acc|none=>acc) else acc)
theorem ϰf {n y:Str}{c:Addr}{acc:List (Str×Addr)}:((n,c)::acc).lookup y=if y == n then some c else acc.lookup y:=by
 rw[List.lookup_cons];cases y == n<;>rfl
theorem ϡj {env:Env}:∀(names:List (Str×NameKind)) (acc:List (Str×Addr)),(∀ y c,acc.lookup y=some c→env.cells.lookup y=some c)→∀y c,(capt env names acc).lookup y=some c→env.cells.lookup y=some c
 |[],acc,h,y,c,e=>h y c e
 |(n,k)::r,acc,h,y,c,e=>by
  unfold capt at e
  refine ϡj r _ (fun y c q=>?_) y c e
  split at q
  ·split at q
   ·rename_i c' hc
    rw[ϰf] at q
    split at q
    ·rename_i hy
     cases q
     rw[eq_of_beq hy];exact hc
    ·exact h y c q
   ·exact h y c q
  ·exact h y c q
theorem ϲs {env:Env}{y:Str}:∀(names:List (Str×NameKind)) (acc:List (Str×Addr)),(∃ c,acc.lookup y=some c)→∃c,(capt env names acc).lookup y=some c
 |[],acc,h=>h
 |(n,k)::r,acc,h=>by
  unfold capt
  refine ϲs r _ ?_
  split
  ·split
   ·rw[ϰf]
    split
    ·exact⟨_,rfl⟩
    ·exact h
   ·exact h
  ·exact h
theorem ϡv {env:Env}{y:Str} (hy:(env.cells.lookup y).isSome=true):∀(names:List (Str×NameKind)) (acc:List (Str×Addr)),(y,NameKind.free)∈names→∃c,(capt env names acc).lookup y=some c
 |(n,k)::r,acc,h=>by
  unfold capt
  rcases List.mem_cons.mp h with z|z
  ·cases z
   refine ϲs r _ ?_
   obtain⟨c,hc⟩:=Option.isSome_iff_exists.mp hy
   rw[if_pos (by rfl),hc]
   exact⟨c,by rw[ϰf,if_pos (beq_self_eq_true y)]⟩
  ·exact ϡv hy r _ z
theorem ϲc {scope:Scope}{env:Env}{y:Str} (h0:∀z∈scope.names,z.2≠.cell) (h:(relabel scope env).names.lookup y=some .cell∨(relabel scope env).names.lookup y=some .free):(y,NameKind.free)∈scope.names:=by
 have mem:∃k,(k=NameKind.cell∨k=NameKind.free)∧(y,k)∈(relabel scope env).names:=by
  rcases h with h|h
  ·exact⟨_,.inl rfl,PySem.mem_of_lookup h⟩
  ·exact⟨_,.inr rfl,PySem.mem_of_lookup h⟩
 obtain⟨k,hk,hm⟩:=mem
 unfold relabel at hm
 obtain⟨⟨n,k'⟩,hm',e⟩:=List.mem_map.mp hm
 simp only at e
 split at e
 ·rename_i hc
  cases e
  have:k'=.free:=by
   simp only[Bool.and_eq_true,beq_iff_eq] at hc
   exact hc.1.1
  rw[← this];exact hm'
 ·cases e
  rcases hk with rfl|rfl
  ·exact absurd rfl (h0 _ hm')
  ·exact hm'
def ϛ1 (scope:Scope) (env:Env):Bool:=scope.names.all fun y=>y.2 != .free || (env.cells.lookup y.1).isSome
def ϱh (X:Cx) (scope:Scope):List Str→List (Option Nat)→Bool
 |[],[]=>true
 |y::N,o::js=>(match o with
  |none=>true
  |some j=>X.N[j]? == some y && (X.env.scope.names.lookup y == some .cell || X.env.scope.names.lookup y == some .free) && (relabel scope X.env).names.lookup y != some .local) && ϱh X scope N js
 |_,_=>false
theorem ϰ7 {X:Cx}{scope:Scope}:∀{N:List Str}{js:List (Option Nat)},ϱh X scope N js=true→js.length=N.length∧∀(i:Nat) y j,N[i]?=some y→js[i]?=some (some j)→X.N[j]?=some y∧Vis X.env.scope y∧X.env.scope.names.lookup y≠some .local∧(relabel scope X.env).names.lookup y≠some .local
 |[],[],_=>⟨rfl,fun i y j h=>by simp at h⟩
 |[],_::_,h=>by simp[ϱh] at h
 |_::_,[],h=>by simp[ϱh] at h
 |z::N,o::js,h=>by
  unfold ϱh at h
  rw[Bool.and_eq_true] at h
  obtain⟨l,t⟩:=ϰ7 h.2
  refine⟨by rw[List.length_cons,List.length_cons,l],fun i y j h1 h2=>?_⟩
  cases i with
  |zero=>
   simp at h1 h2
   subst h1 h2
   have h':=h.1
   simp only[Bool.and_eq_true,Bool.or_eq_true,beq_iff_eq,bne_iff_ne] at h'
   refine⟨h'.1.1,?_,?_,h'.2⟩
   ·rcases h'.1.2 with q|q
    ·exact .inr (.inl q)
    ·exact .inr (.inr q)
   ·rcases h'.1.2 with q|q<;>rw[q]<;>decide
  |succ i=>exact t i y j (by simpa using h1) (by simpa using h2)
theorem ϕs {X:Cx}{scope:Scope}{N':List Str}{js:List (Option Nat)} (clos:closureFor scope X.env=pure (capt X.env scope.names [])) (nocell:∀y∈scope.names,y.2≠.cell) (kind:scope.kind=.function)
  (names:∀y∈scope.names,y.2=.local→scope.names.lookup y.1=some .local) (free:ϛ1 scope X.env=true) (lent:ϱh X scope N' js=true):Blk X scope (capt X.env scope.names []) N' js where
 clos:=clos
 nocell:=nocell
 kind:=kind
 names:=names
 sub:=ϡj _ _ fun y c e=>nomatch e
 has:=fun y h=>by
  have hm:=ϲc nocell h
  have hf:=List.all_eq_true.mp free _ hm
  exact ϡv (by simpa using hf) _ _ hm
 len:=(ϰ7 lent).1
 lent:=(ϰ7 lent).2
theorem ϑt {K:PySem.W.Frag}{a:Addr}{xs:List V}{g:TG}{tf:TT}{te:TE}{τ:L2.St}{H:Hp}{Q:VK} (Pv:Nat→List V→L2.St→Hp→Prop) (h0:Pv 0 [] τ H) (hl:∀i ys τ H,Pv i ys τ H→SqL K H a xs)
  (hs:∀i x ys τ H,xs[i]?=some x→Pv i ys τ H→g x τ H fun τ2 H2=>tf τ2 H2 fun b H3=>if b=true then te τ2 H3 fun y H4=>ys.length < sizeLine∧Pv (i+1) (ys++[y]) τ2 H4 else Pv (i+1) ys τ2 H3)
  (hd:∀ys τ H,Pv xs.length ys τ H→∀p,H p=none→Q (.ref p) (upd H p (.lst ys))) :
  ϵf (Itl K a) g tf te Q τ H:=by
 refine⟨fun i m ys τ H=>m=xs.length-i∧i≤xs.length∧Pv i ys τ H,⟨xs.length,by simp,Nat.zero_le _,h0⟩,?_⟩
 rintro i m ys τ H ⟨rfl,hi,p⟩
 have q:=hl i ys τ H p
 by_cases hlt:i < xs.length
 ·refine .inr ⟨⟨xs,xs[i],q,by simp[hlt]⟩,Pv (i+1),fun ys' τ' H' p'=>⟨xs.length-(i+1),by omega,rfl,hlt,p'⟩,fun x H' y=>?_⟩
  obtain⟨e,y⟩:=y
  subst e
  exact hs i x ys τ _ (y xs q) p
 ·have e:i=xs.length:=by omega
  subst e
  exact .inl ⟨⟨xs,q,Nat.le_refl _⟩,hd ys τ H p⟩
theorem ϵo {lo:Int}{n:Nat}{g:TG}{tf:TT}{te:TE}{τ:L2.St}{H:Hp}{Q:VK} (Pv:Nat→List V→L2.St→Hp→Prop) (h0:Pv 0 [] τ H)
  (hs:∀i ys τ H,i < n→Pv i ys τ H→g (.int (lo+i)) τ H fun τ2 H2=>tf τ2 H2 fun b H3=>if b=true then te τ2 H3 fun y H4=>ys.length < sizeLine∧Pv (i+1) (ys++[y]) τ2 H4 else Pv (i+1) ys τ2 H3)
  (hd:∀ys τ H,Pv n ys τ H→∀p,H p=none→Q (.ref p) (upd H p (.lst ys))) :
  ϵf (Itr lo n) g tf te Q τ H:=by
 refine⟨fun i m ys τ H=>m=n-i∧i≤n∧Pv i ys τ H,⟨n,by simp,Nat.zero_le _,h0⟩,?_⟩
 rintro i m ys τ H ⟨rfl,hi,p⟩
 by_cases hlt:i < n
 ·refine .inr ⟨hlt,Pv (i+1),fun ys' τ' H' p'=>⟨n-(i+1),by omega,rfl,hlt,p'⟩,fun x H' y=>?_⟩
  obtain⟨e,y⟩:=y
  subst e y
  exact hs i ys τ _ hlt p
 ·have e:i=n:=by omega
  subst e
  exact .inl ⟨Nat.le_refl _,hd ys τ H p⟩
end L3
namespace L3
open PySem PySem.Spec PyProof.Rows L2
section
variable {prog:Program}{w:World}{A:Around}{E:Value→Shared→Prop}{s:Shared}{l:Addr}{xs:Array Value}
end
section
variable {X:Cx}
theorem ϵr:∀{xs:List Str}{us:List Value},Vals (xs.map V.str) us→StrsAre us xs
 |[],_,r=>by cases r;exact .nil
 |x::xs,_,r=>by
  cases r with
  |cons r1 r2=>
   obtain⟨t,rfl⟩:=r1
   exact .cons x t (ϵr r2)
def rJoin (K:PySem.W.Frag):V→List V→Hp→VK→Prop:=fun x vs H Q=>∃z p ys,x=.str z∧vs=[.ref p]∧SqL K H p (ys.map V.str)∧(ys.map (·.length)).sum+ys.length*z.length≤16777216∧Q (.str (Txt.join z ys)) H
theorem mt_join:MtR X "str.join" (rJoin X.K):=by
 intro pins s σ H x vs v us Q I rx rv h
 obtain⟨z,p,ys,rfl,rfl,hq,hz,q⟩:=h
 obtain⟨t,rfl⟩:=rx
 obtain⟨u,rfl,ru⟩:=ϲU rv
 cases ru
 obtain⟨its,ri,pl,_⟩:=I.list hq
 exact join_list pl.isList (by simpa using ϵr ri) hz fun t' k=>⟨.str (Txt.join z ys),H,I.tok _,⟨_,rfl⟩,q⟩
end
end L3
namespace L3
open PySem PySem.Spec PyProof.Rows L2
section
variable {X:Cx}{e st:Expr}{te ts:TE}{pos p2:Pos}
end
end L3
namespace L3
open PySem PySem.Spec PyProof.Rows L2
end L3
namespace L3
open PySem PySem.Spec PyProof.Rows L2
section
variable {X:Cx}
theorem mul_len (z:Str) (n:Int) (h:1≤n):((Txt.mul z n).length:Int)=(z.length:Int)*n:=by
 rw[len_mul,if_neg (by simp;omega)]
end
end L3
namespace L3
open PySem PySem.Spec PyProof.Rows L2
section
variable {X:Cx}
def rMul0:R2:=fun x y H Q=>∃(z:Str) (n:Int),x=.str z∧y=.int n∧0≤n∧n≤1000∧z.length≤100∧Q (.str (Txt.mul z n)) H
theorem ϱM:OpR X (binaryOp .Mult) rMul0:=by
 intro pins s σ H x y v u Q I rx ry h
 obtain⟨z,n,rfl,rfl,n0,n1,hz,q⟩:=h
 obtain⟨t,rfl⟩:=rx
 obtain⟨t',rfl⟩:=ry
 refine SB.mul ⟨?_,fun a b=>?_,fun a b=>?_⟩ fun t' k=>⟨.str (Txt.mul z n),H,I.tok _,⟨_,rfl⟩,q⟩
 ·rw[decide_eq_false (by omega),decide_eq_false (by omega)];rfl
 ·have h1:(9223372036854775:Int)≤(2 ^ 63-1) / n:=by
   refine(Int.le_ediv_iff_mul_le (by omega)).mpr ?_
   have:(9223372036854775:Int)*n≤9223372036854775*1000:=Int.mul_le_mul_of_nonneg_left n1 (by decide)
   omega
  omega
 ·have h2:z.length*n.toNat≤100*1000:=Nat.mul_le_mul hz (by omega)
  have h3:(sizeLine:Nat)≥100000:=by decide
  unfold Builtin.Str.tooLong
  exact decide_eq_false (by omega)
theorem mul0_0 (z:Str):Txt.mul z 0=Str.ofString "":=rfl
end
end L3
namespace L3
open PySem PySem.Spec PyProof.Rows L2
section
variable {rest:List Expr}{pos:Pos}{env:Env}
theorem ϱc {es:List Expr}{k:Nat}:starEach (.Tuple es k pos::rest) env=(false,eval (.Tuple es k pos) env)::starEach rest env:=rfl
theorem ϱ2 {es:List Expr}:starEach (.List es pos::rest) env=(false,eval (.List es pos) env)::starEach rest env:=rfl
theorem ϖA {l i:Expr}:starEach (.Subscript l i pos::rest) env=(false,eval (.Subscript l i pos) env)::starEach rest env:=rfl
theorem ϑK {l r:Expr}{o:Operator}:starEach (.BinOp l o r pos::rest) env=(false,eval (.BinOp l o r pos) env)::starEach rest env:=rfl
theorem ϑ7 {f:Expr}{es:List Expr}{ks:List Keyword}:starEach (.Call f es ks pos::rest) env=(false,eval (.Call f es ks pos) env)::starEach rest env:=rfl
end
end L3
namespace ST
open PySem PySem.SetTable
def it:Nat→Nat→Nat
 |0,x=>x
 |n+1,x=>it n (5*x+1)
def adv (mask:Nat) (p:Probe):Probe:=
 if p.more > 0 then { p with j:=p.j+1,more:=p.more-1 } else
 { p with j:=(leap mask p.i p.perturb).1,more:=runEnd mask (leap mask p.i p.perturb).1-(leap mask p.i p.perturb).1,i:=(leap mask p.i p.perturb).1,perturb:=(leap mask p.i p.perturb).2 }
def ϛN (mask i perturb:Nat):Probe:={ j:=i,more:=runEnd mask i-i,i,perturb,dummy:=none }
def st (mask:Nat) (h:Int):Probe:=ϛN mask (bits h % (mask+1)) (bits h)
def itr (mask:Nat):Nat→Probe→Probe
 |0,p=>p
 |n+1,p=>itr mask n (adv mask p)
def pos (mask:Nat) (h:Int) (n:Nat):Nat:=(itr mask n (st mask h)).j
def bk (mask:Nat):Nat→Nat×Nat→Nat×Nat
 |0,x=>x
 |m+1,x=>bk mask m (leap mask x.1 x.2)
end ST
namespace ST
open PySem PySem.SetTable
end ST
namespace ST
open PySem PySem.SetTable
end ST
namespace ST
open PySem PySem.SetTable
end ST
namespace PySem
section
variable {prog:Program}{w:World}{K:Type} [DecidableEq K] (knd:KeyKind prog w K)
variable {knd}{A:Around}{E:Value→Shared→Prop}{s:Shared}
end
end PySem
namespace PySem
section
variable {prog:Program}{w:World}{K:Type} [DecidableEq K] {knd:KeyKind prog w K}{A:Around}{E:Value→Shared→Prop}{s:Shared}
open ST in
end
end PySem
namespace PySem
section
variable {prog:Program}{w:World}{K:Type} [DecidableEq K] {knd:KeyKind prog w K}{A:Around}{E:Value→Shared→Prop}{s:Shared}
open ST in
end
end PySem
namespace PySem
section
variable {prog:Program}{w:World}{A:Around}{E:Value→Shared→Prop}{s:Shared}
end
end PySem
namespace PySem
section
variable {prog:Program}{w:World}{B:Around}{E:Value→Shared→Prop}{s:Shared}
end
end PySem
namespace L3
open PySem PySem.Spec PyProof.Rows L2
def ndist {κ:Type} [DecidableEq κ]:List κ→Nat
 |[]=>0
 |x::xs=>if x∈xs then ndist xs else ndist xs+1
section
variable {X:Cx}
end
end L3
namespace L3
open PySem PySem.Spec PyProof.Rows L2
section
variable {X:Cx}
end
end L3
namespace L3
open PySem PySem.Spec PyProof.Rows L2
abbrev Mk:=Int×Str
abbrev Stp:=Int×Str×Str×Int
def Grow (H H':Hp):Prop:=∀b o,H b=some o→(∀ xs,o≠.lst xs)→H' b=some o
theorem Grow.trans {H H' H'':Hp} (g:Grow H H') (g':Grow H' H''):Grow H H'':=fun b o h n=>g' b o (g b o h n) n
theorem Same.grow {H H':Hp} (g:Same H H'):Grow H H':=fun b o h _=>g b o h
theorem ϕj {H:Hp}{p:Addr}{xs:List V} (h:H p=some (.lst xs)) (o:HO):Grow H (upd H p o):=fun b u q n=>by
 rw[ϖq]
 ·exact q
 ·rintro rfl;rw[h] at q;cases q;exact n xs rfl
theorem ϕw {H:Hp}{p:Addr} (h:H p=none) (o:HO):Grow H (upd H p o):=Same.grow (ϖe h o)
theorem Grow.seqT {K:PySem.W.Frag}{H H':Hp}{a:Addr}{xs:List V} (e:Grow H H') (h:SqT K H a xs):SqT K H' a xs:=by
 rcases h with (h|⟨o,h⟩)|h
 ·exact .inl (.inl (e _ _ h (by intro _ q;cases q)))
 ·exact .inl (.inr ⟨o,e _ _ h (by intro _ q;cases q)⟩)
 ·exact .inr h
def MkV (K:PySem.W.Frag) (H:Hp) (m:Mk) (v:V):Prop:=∃b,v=.ref b∧SqT K H b [.int m.1,.str m.2]
def StV (K:PySem.W.Frag) (H:Hp) (t:Stp) (v:V):Prop:=∃b,v=.ref b∧SqT K H b [.int t.1,.str t.2.1,.str t.2.2.1,.int t.2.2.2]
theorem MkV.mono {K:PySem.W.Frag}{H H':Hp}{m:Mk}{v:V} (g:Grow H H'):MkV K H m v→MkV K H' m v:=fun⟨b,e,h⟩=>⟨b,e,g.seqT h⟩
theorem StV.mono {K:PySem.W.Frag}{H H':Hp}{m:Stp}{v:V} (g:Grow H H'):StV K H m v→StV K H' m v:=fun⟨b,e,h⟩=>⟨b,e,g.seqT h⟩
theorem ϖb {α β:Type}{F G:α→β→Prop} (h:∀a b,F a b→G a b):∀{xs:List α}{ys:List β},Paired F xs ys→Paired G xs ys
 |_,_,.nil=>.nil
 |_,_,.cons p q=>.cons (h _ _ p) (ϖb h q)
theorem ϖt {α β:Type}{F:α→β→Prop}:∀{xs xs':List α}{ys ys':List β},Paired F xs ys→Paired F xs' ys'→Paired F (xs++xs') (ys++ys')
 |_,_,_,_,.nil,q=>q
 |_,_,_,_,.cons p r,q=>.cons p (ϖt r q)
theorem ϖw {α β:Type}{F:α→β→Prop}:∀{xs:List α}{ys:List β}{i:Nat}{y:β},Paired F xs ys→ys[i]?=some y→∃x,xs[i]?=some x∧F x y
 |_,_,_,_,.nil,e=>by simp at e
 |_,_,0,_,.cons p _,e=>by simp at e;subst e;exact⟨_,rfl,p⟩
 |_,_,i+1,y,.cons _ q,e=>by
  obtain⟨x,h1,h2⟩:=ϖw (i:=i) (y:=y) q (by simpa using e)
  exact⟨x,by simpa using h1,h2⟩
structure Scr where
 signs:Str
 rooms:Int
 begins:List Mk
 steps:List Stp
 ends:List Mk
def ScV (K:PySem.W.Frag) (H:Hp) (s:Scr) (v:V) (pb ps pe:Addr):Prop:=∃a xb xs xe,v=.ref a∧SqT K H a [.str s.signs,.int s.rooms,.ref pb,.ref ps,.ref pe]∧SqL K H pb xb∧SqL K H ps xs∧SqL K H pe xe ∧
 Paired (MkV K H) s.begins xb∧Paired (StV K H) s.steps xs∧Paired (MkV K H) s.ends xe
theorem ScV.mono {K:PySem.W.Frag}{H H':Hp}{s:Scr}{v:V}{pb ps pe:Addr} (g:Same H H'):ScV K H s v pb ps pe→ScV K H' s v pb ps pe
 |⟨a,xb,xs,xe,e,h1,h2,h3,h4,h5,h6,h7⟩=>⟨a,xb,xs,xe,e,Same.seqT g h1,g.seq h2,g.seq h3,g.seq h4,ϖb (fun _ _=>MkV.mono (Same.grow g)) h5,ϖb (fun _ _=>StV.mono (Same.grow g)) h6,ϖb (fun _ _=>MkV.mono (Same.grow g)) h7⟩
def dMk (m:Mk):D:=.tup [.int m.1,.str m.2]
def dSt (t:Stp):D:=.tup [.int t.1,.str t.2.1,.str t.2.2.1,.int t.2.2.2]
theorem ϱG {K:PySem.W.Frag}{H:Hp} (i:Int):Rep K H (.int i) (.int i):=by unfold Rep;rfl
theorem ϲR {K:PySem.W.Frag}{H:Hp} (x:Str):Rep K H (.str x) (.str x):=by unfold Rep;rfl
theorem ϲW {K:PySem.W.Frag}{H:Hp}{a:Addr}{xs:List V}{ds:List D} (h:SqT K H a xs) (r:Reps K H ds xs):Rep K H (.tup ds) (.ref a):=by unfold Rep;exact⟨a,xs,rfl,h,r⟩
theorem ϕ_ {K:PySem.W.Frag}{H:Hp}{a:Addr}{xs:List V}{ds:List D} (h:SqL K H a xs) (r:Reps K H ds xs):Rep K H (.lst ds) (.ref a):=by unfold Rep;exact⟨a,xs,rfl,h,r⟩
theorem MkV.rep {K:PySem.W.Frag}{H:Hp}{m:Mk}{v:V}:MkV K H m v→Rep K H (dMk m) v
 |⟨_,e,h⟩=>by subst e;exact ϲW h (.cons (ϱG _) (.cons (ϲR _) .nil))
theorem StV.rep {K:PySem.W.Frag}{H:Hp}{m:Stp}{v:V}:StV K H m v→Rep K H (dSt m) v
 |⟨_,e,h⟩=>by subst e;exact ϲW h (.cons (ϱG _) (.cons (ϲR _) (.cons (ϲR _) (.cons (ϱG _) .nil))))
theorem ϲE {K:PySem.W.Frag}{H:Hp}{α:Type}{F:α→V→Prop}{f:α→D} (h:∀a v,F a v→Rep K H (f a) v):∀{xs:List α}{vs:List V},Paired F xs vs→Reps K H (xs.map f) vs
 |_,_,.nil=>.nil
 |_,_,.cons p q=>.cons (h _ _ p) (ϲE h q)
theorem ϑy {α:Type} (f:α→D) (n:Nat) (h:∀a,deep (f a)≤n):∀xs:List α,ϰF (xs.map f)≤n
 |[]=>by rw[List.map_nil,ϰF];exact Nat.zero_le _
 |x::xs=>by
  have h1:=h x
  have h2:=ϑy f n h xs
  rw[List.map_cons,ϰF];omega
theorem ϰw (m:Mk):deep (dMk m)≤1:=by unfold dMk;simp[deep,ϰF]
theorem ϱB (m:Stp):deep (dSt m)≤1:=by unfold dSt;simp[deep,ϰF]
theorem ϵE (a b:Mk):eqD (dMk a) (dMk b)=decide (a=b):=by
 obtain⟨i,x⟩:=a;obtain⟨j,y⟩:=b
 unfold dMk
 simp only[eqD,eqDs,Bool.and_true]
 by_cases h1:i=j<;>by_cases h2:x=y<;>simp[h1,h2]
theorem ϡ1 (a b:Stp):eqD (dSt a) (dSt b)=decide (a=b):=by
 obtain⟨i,x,z,k⟩:=a;obtain⟨j,y,u,l⟩:=b
 unfold dSt
 simp only[eqD,eqDs,Bool.and_true]
 by_cases h1:i=j<;>by_cases h2:x=y<;>by_cases h3:z=u<;>by_cases h4:k=l<;>simp[h1,h2,h3,h4]
theorem ϰI {α:Type} [DecidableEq α] (f:α→D) (h:∀a b,eqD (f a) (f b)=decide (a=b)) (x:α):∀xs:List α,((xs.map f).any fun e=>eqD e (f x))=decide (x∈xs)
 |[]=>by simp
 |y::ys=>by
  rw[List.map_cons,List.any_cons,ϰI f h x ys,h]
  by_cases c:y=x
  ·simp[c]
  ·simp[c,show ¬ x=y from fun q=>c q.symm]
section
variable {X:Cx}
def ϵR (n:Nat) (i:Int):Nat:=if i < 0 then (i+(n:Int)).toNat else min i.toNat n
def ϛ4:V→List V→Hp→VK→Prop:=fun x vs H Q=>∃l xs i y,x=.ref l∧vs=[.int i,y]∧H l=some (.lst xs)∧(-(2 ^ 63)≤i∧i < 2 ^ 63)∧xs.length < sizeLine∧Q .non (upd H l (.lst (xs.take (ϵR xs.length i)++y::xs.drop (ϵR xs.length i))))
theorem ϟG:MtM X "list.insert" ϛ4:=by
 intro pins s σ H x vs v us Q I rx rv h
 obtain⟨l,xs,i,y,rfl,rfl,hH,hi,hz,q⟩:=h
 cases rx
 obtain⟨u,w',rfl,⟨t,rfl⟩,ry⟩:=ϡ3 rv
 obtain⟨z,its,n,r,hl,e⟩:=I.lstM hH
 have hf:¬ (!Builtin.List.listFitsIndex i)=true:=by
  unfold Builtin.List.listFitsIndex
  simp only[Bool.not_eq_true',Bool.and_eq_false_iff,decide_eq_false_iff_not,not_or,Decidable.not_not]
  exact hi
 refine call_meets F.slot_list_insert ⟨_,e,rfl⟩ F.entry_list_insert (F.args_list_insert_3 _ _ _) (AutoSeq1.list_insert_list_int_val_1 l its.toArray n i t w' hf (by rw[List.size_toArray];omega)) ⟨e,?_⟩
 have hil:ϵR xs.length i=ϵR its.length i:=by rw[hl]
 refine⟨.non,_,I.lset (its':=its.take (ϵR its.length i)++w'::its.drop (ϵR its.length i)) hH e ?_ ((r.take _).append (.cons ry (r.drop _))) ?_,rfl,by rw[← hil];exact q⟩
 ·rw[List.size_toArray]
  show(its.toArray.extract 0 (ϵR its.length i)).push w'++its.toArray.extract (ϵR its.length i)=_
  apply Array.ext'
  simp[Array.toList_extract,List.take_of_length_le]
 ·rw[List.length_append,List.length_cons,List.length_take,List.length_drop];omega
theorem ϖm {x:Str}{i:Int}{pos:Pos} (hg:Gl X x) (hm:∃t,X.mg x=some (.int i t)) (hd:(x == ("__debug__":Str))=false:=by decide):PE X (.Name x pos) (tC (.int i)):=by
 obtain⟨t,hm⟩:=hm
 exact ϛz hg hm ⟨t,rfl⟩ hd
end
theorem kIx {X:Cx}{K:PySem.W.Frag} (r:PySem.W.Frag→R2) (h:IxR X (r X.K)) (e:X.K=K:=by rfl):IxR X (r K):=e▸h
theorem kSl {X:Cx}{K:PySem.W.Frag} (r:PySem.W.Frag→V→Option Int→Option Int→Hp→VK→Prop) (h:SlR X (r X.K)) (e:X.K=K:=by rfl):SlR X (r K):=e▸h
theorem kOp {X:Cx}{K:PySem.W.Frag}{f:Value→Value→Sem Value} (r:PySem.W.Frag→R2) (h:OpR X f (r X.K)) (e:X.K=K:=by rfl):OpR X f (r K):=e▸h
def rLenS (K:PySem.W.Frag):List V→Hp→VK→Prop:=fun xs H Q=>∃p ys,xs=[.ref p]∧(SqL K H p ys∨SqT K H p ys)∧Q (.int ys.length) H
theorem kLen {X:Cx}{K:PySem.W.Frag} (e:X.K=K:=by rfl):ϱi X (.builtin "len") (rLenS K):=e▸ϲa
end L3
namespace L3
open PySem PySem.Spec PyProof.Rows L2
theorem ObjOk.there {P:Program}{w:World}{H:Hp}{h:Heap}:∀{a:Addr}{o:HO},ObjOk P w H h a o→∃ob,h.get? a=some ob
 |_,.lst _,x=>let ⟨_,_,_,_,e⟩:=x;⟨_,e⟩
 |_,.tup _,x=>let ⟨_,_,_,o,e,_⟩:=x;⟨o,e⟩
 |_,.dK _,x=>let ⟨_,_,_,_,o,_,_,e,_⟩:=x;⟨o,e⟩
 |_,.dT _,x=>let ⟨_,_,_,_,o,_,_,e,_⟩:=x;⟨o,e⟩
 |_,.set _ _,x=>let ⟨o,_,_,_,e,_⟩:=x;⟨o,e⟩
 |_,.ins _ _ _,x=>let ⟨_,_,_,e,_⟩:=x;⟨_,e⟩
 |_,.own _,x=>x
 |_,.xd _,x=>let ⟨_,⟨o,_,_,e,_⟩,_⟩:=x;⟨o,e⟩
 |_,.met _ _,x=>⟨_,x⟩
 |_,.rng _ _,x=>let ⟨_,_,_,e⟩:=x;⟨_,e⟩
 |_,.frz o _,x=>⟨o,x.1⟩
 |_,.tbl _,x=>⟨_,x⟩
 |_,.ext _,x=>x.2.1
structure Fly (P:Program) (w:World) (st:List Env) (H:Hp) (s:Shared) (x C:Addr) (H':Hp) (s':Shared) (B:Heap):Prop where
 os:s'.os=s.os
 bare:AllBare s'.gens
 un:Un (frs st) [] H H' s.heap s'.heap
 hok:HOk P w H' s'.heap
 fl:∃t,Heap.FlyingW B st x (.ref C) (.ref t) s'.heap
 new:s.heap.get? x=none
 xf:H' x=none
 tr:∀b o,H' b≠none→s'.heap.get? b=some o→B.get? b=some o
 ol:∀b o,s.heap.get? b=some o→H b=none→b∉frs st→B.get? b=some o
 th:∀b o,s.heap.get? b=some o→b∉frs st→∃o',B.get? b=some o'
 ff:∀b∈frs st,H' b=none
def CX1 (P:Program) (w:World):CXT:=fun st H s E e s'=>∃x C H' B,e=.ref x∧Fly P w st H s x C H' s' B∧E (.ref C) none H'
section
variable {P:Program}{w:World}{st:List Env}{H H':Hp}{s s':Shared}{x C:Addr}{B:Heap}
theorem Fly.turn (F:Fly P w st H s x C H' s' B) {h2:Heap} (k:B.StaysIn h2) (u:s'.heap.UpToSlots h2):Un (frs st) [] H H' s.heap h2∧HOk P w H' h2:=by
 have slot:∀b∈frs st,∀o,s'.heap.get? b=some o→∃sl,h2.get? b=some { o with slots:=sl }:=fun b hb o q=>by
  obtain⟨t,fl⟩:=F.fl
  obtain⟨_,o',e,d⟩:=fl.2.2.1.mem hb
  rw[q] at e;cases e
  exact u b o q d
 refine⟨⟨fun b o q n hb _=>k b o (F.ol b o q n hb),fun b o q n hb hx=>?_,F.un.free,fun b o q hx=>?_,F.un.tups,F.un.frzs,F.un.tbls⟩,fun a o e=>?_⟩
 ·obtain⟨sl,e⟩:=F.un.slot b o q n hb hx
  obtain⟨sl',e'⟩:=slot b hb _ e
  exact⟨sl',e'⟩
 ·by_cases hb:b∈frs st
  ·obtain⟨o',e⟩:=F.un.there b o q hx
   obtain⟨sl,e'⟩:=slot b hb _ e
   exact⟨_,e'⟩
  ·obtain⟨o',e⟩:=F.th b o q hb
   exact⟨o',k b o' e⟩
 ·refine(F.hok a o e).stay (fun b v hb q=>?_) (fun _ q=>q) fun _ _ q=>q
  refine k b v (F.tr b v ?_ q)
  rcases hb with rfl|hb
  ·rw[e];simp
  ·rw[hb];simp
end
section
variable {X:Cx}{pins:List (Addr×Obj)}{σ:L2.St}{H:Hp}{s:Shared}
theorem ϟj {M:Model}{h2:Heap}{x C:Addr}{vs:List Value}{Q:Unit→Shared→Prop}{E:Value→Shared→Prop} (I:Inv X pins σ H s) (hst:X.stack=X.env::X.outer) (hfm:X.env.frame=some X.env.locals) (hex:X.ex=[]) (hx:Heap.MadeExcOf s.heap h2 x (.ref C) vs)
  (q:∀h' B,Fly X.prog X.w X.outer X.H₀ X.s₀ x C H { s with heap:=h' } B→Q () { s with heap:=h' }):wpAny M X.A (leaving X.env (.ref x)) Q E { s with heap:=h2 }:=by
 have hfr:X.A.frames=some (X.env::X.outer):=by rw[← hst];exact I.ok.frames
 have hstk:=I.stack
 have inB:∀b o,s.heap.get? b=some o→b∉frs X.stack→(PySem.W.hideAll s.heap (frs X.stack)).get? b=some o:=fun b o e n=>PySem.W.hideAll_get _ e n
 have nst:∀b o,X.s₀.heap.get? b=some o→b∉X.fs→b∉frs X.stack:=fun b o e n hb=>by
  rcases List.mem_cons.mp (I.stkSub b hb) with z|z
  ·exact absurd (Nat.lt_of_lt_of_le (Heap.lt_size e) I.ok.above) (by rw[z];exact Nat.lt_irrefl _)
  ·exact n z
 have noex:∀b:Addr,b∉X.ex:=fun b=>by rw[hex];simp
 have fsub:∀b∈X.fs,b∈frs X.stack:=fun b hb=>by
  rw[hst];unfold frs;rw[List.filterMap_cons,hfm];exact List.mem_cons_of_mem _ hb
 have hff:=PySem.W.funFrames_hide (as:=frs X.stack) hstk (fun env he a ha=>List.mem_filterMap.mpr ⟨env,he,ha⟩)
 rw[hst] at hff
 refine wpAny_leaves_madeW (base:=PySem.W.hideAll s.heap (frs (X.env::X.outer))) (h:=s.heap) (s:={ s with heap:=h2 }) (L:=X.env.locals) hfr hfm (fun b o e=>PySem.W.of_hideAll _ e) hff hx fun h' t f1 f2 f3 f4=>?_
 rw[← hst] at f1 f3
 have keepB:∀b o,s.heap.get? b=some o→b∉frs X.stack→h'.get? b=some o:=fun b o e n=>f1.1 b o (inB b o e n)
 have slot:∀b∈frs X.stack,∀o,s.heap.get? b=some o→∃sl,h'.get? b=some { o with slots:=sl }:=fun b hb o e=>by
  obtain⟨_,o',e',d⟩:=hstk.mem hb
  rw[e] at e';cases e'
  exact f4 b o (hx.keeps b o e) d
 have xnew:X.s₀.heap.get? x=none:=by
  cases e:X.s₀.heap.get? x with
  |none=>rfl
  |some o=>
   obtain⟨o',e'⟩:=I.base.there x o e (noex x)
   rw[hx.new] at e';cases e'
 refine q h' _ ⟨I.os,I.bare,⟨fun b o e n hb _=>?_,fun b o e n hb _=>?_,fun b o e n _=>I.base.free b o e n (noex b),fun b o e _=>?_,I.base.tups,I.base.frzs,I.base.tbls⟩,fun a u e=>?_,⟨t,f1⟩,xnew,?_,fun b o hb e=>?_,fun b o e n hb=>?_,fun b o e hb=>?_,fun b hb=>?_⟩
 ·exact keepB b o (I.base.keep b o e n hb (noex b)) (nst b o e hb)
 ·obtain⟨sl,e1⟩:=I.base.slot b o e n hb (noex b)
  obtain⟨sl',e2⟩:=slot b (fsub b hb) _ e1
  exact⟨sl',e2⟩
 ·obtain⟨o',e1⟩:=I.base.there b o e (noex b)
  by_cases hb:b∈frs X.stack
  ·obtain⟨sl,e2⟩:=slot b hb _ e1
   exact⟨_,e2⟩
  ·exact⟨o',keepB b o' e1 hb⟩
 ·refine(I.hok a u e).stay (fun b v hb q=>keepB b v q fun z=>?_) (fun _ q=>q) fun _ _ q=>q
  have:=I.stkFree b z
  rcases hb with rfl|hb
  ·rw[e] at this;cases this
  ·rw[hb] at this;cases this
 ·cases e:H x with
  |none=>rfl
  |some u=>
   obtain⟨o,e'⟩:=ObjOk.there (I.hok x u e)
   rw[hx.new] at e';cases e'
 ·cases e':H b with
  |none=>exact absurd e' hb
  |some u=>
   obtain⟨o1,e1⟩:=ObjOk.there (I.hok b u e')
   have nb:b∉frs X.stack:=fun z=>by have:=I.stkFree b z;rw[e'] at this;cases this
   have e2:=keepB b o1 e1 nb
   have e3:h'.get? b=some o:=e
   rw[e3] at e2;cases e2
   exact inB b o e1 nb
 ·exact inB b o (I.base.keep b o e n hb (noex b)) (nst b o e hb)
 ·obtain⟨o',e1⟩:=I.base.there b o e (noex b)
  exact⟨o',inB b o' e1 (nst b o e hb)⟩
 ·exact I.stkFree b (fsub b hb)
theorem ϟ9 {M:Model}{s2:Shared}{H2:Hp}{x C:Addr}{B:Heap}{Q:Unit→Shared→Prop}{E:Value→Shared→Prop} (I:Inv X pins σ H s) (hst:X.stack=X.env::X.outer) (hfm:X.env.frame=some X.env.locals) (hex:X.ex=[]) (F:Fly X.prog X.w X.stack H s x C H2 s2 B)
  (q:∀h',Fly X.prog X.w X.outer X.H₀ X.s₀ x C H2 { s2 with heap:=h' } B→Q () { s2 with heap:=h' }):wpAny M X.A (leaving X.env (.ref x)) Q E s2:=by
 have hfr:X.A.frames=some (X.env::X.outer):=by rw[← hst];exact I.ok.frames
 obtain⟨t,fl⟩:=F.fl
 have nst:∀b o,X.s₀.heap.get? b=some o→b∉X.fs→b∉frs X.stack:=fun b o e n hb=>by
  rcases List.mem_cons.mp (I.stkSub b hb) with z|z
  ·exact absurd (Nat.lt_of_lt_of_le (Heap.lt_size e) I.ok.above) (by rw[z];exact Nat.lt_irrefl _)
  ·exact n z
 have noex:∀b:Addr,b∉X.ex:=fun b=>by rw[hex];simp
 have fsub:∀b∈X.fs,b∈frs X.stack:=fun b hb=>by
  rw[hst];unfold frs;rw[List.filterMap_cons,hfm];exact List.mem_cons_of_mem _ hb
 have fl':=fl
 rw[hst] at fl'
 refine wpAny_leaves_onW hfr hfm fl' fun h' f1 f2=>?_
 obtain⟨un,hok⟩:=F.turn f1.1 f2
 have xnew:X.s₀.heap.get? x=none:=by
  cases e:X.s₀.heap.get? x with
  |none=>rfl
  |some o=>
   obtain⟨o',e'⟩:=I.base.there x o e (noex x)
   rw[F.new] at e';cases e'
 refine q h' ⟨?_,F.bare,⟨fun b o e n hb _=>?_,fun b o e n hb _=>?_,fun b o e n _=>?_,fun b o e _=>?_,fun b xs e=>un.tups b xs (I.base.tups b xs e),fun b o u e=>un.frzs b o u (I.base.frzs b o u e),fun b ps e=>?_⟩,hok,⟨t,f1⟩,xnew,F.xf,fun b o hb e=>?_,fun b o e n hb=>?_,fun b o e hb=>?_,fun b hb=>F.ff b (fsub b hb)⟩
 ·exact F.os.trans I.os
 ·exact un.keep b o (I.base.keep b o e n hb (noex b)) (I.base.free b o e n (noex b)) (nst b o e hb) (by simp)
 ·obtain⟨sl,e1⟩:=I.base.slot b o e n hb (noex b)
  obtain⟨sl',e2⟩:=un.slot b _ e1 (I.base.free b o e n (noex b)) (fsub b hb) (by simp)
  exact⟨sl',e2⟩
 ·obtain⟨o',e1⟩:=I.base.there b o e (noex b)
  exact un.free b o' e1 (I.base.free b o e n (noex b)) (by simp)
 ·obtain⟨o',e1⟩:=I.base.there b o e (noex b)
  exact un.there b o' e1 (by simp)
 ·obtain⟨m1,e1⟩:=I.base.tbls b ps e
  obtain⟨m2,e2⟩:=un.tbls b _ e1
  exact⟨m1++m2,by rw[e2,Array.append_assoc]⟩
 ·cases e':H2 b with
  |none=>exact absurd e' hb
  |some u=>
   obtain⟨o1,e1⟩:=ObjOk.there (F.hok b u e')
   have e2:=F.tr b o1 hb e1
   have e3:=f1.1 b o1 e2
   have e4:h'.get? b=some o:=e
   rw[e4] at e3;cases e3
   exact e2
 ·exact F.ol b o (I.base.keep b o e n hb (noex b)) (I.base.free b o e n (noex b)) (nst b o e hb)
 ·obtain⟨o',e1⟩:=I.base.there b o e (noex b)
  exact F.th b o' e1 (nst b o e hb)
end
end L3
namespace L3
open PySem PySem.Spec PyProof.Rows L2 PySem.W PySem.Builtin PySem.Builtin.ObjectAttr PySem.Builtin.Getset_descriptor PySem.Calls
structure XCls (K:Frag) (C:Addr):Prop where
 ga:findIn K (.ref C) "__getattribute__"=some (some (.builtin "BaseException.__getattribute__"))
 gh:findIn K (.ref C) "__getattr__"=some none
 bs:mroIn K C (.type "BaseException")=some true
 cl:(clsIn K C).isSome=true
 ha:findIn K (.ref C) "__class__"=some (some (.builtin "object.__class__"))
 hn:specialIn K (.builtin "object.__class__") "__get__"=some (some (.builtin "getset_descriptor.__get__"))
 htk:takesIn K (.builtin "object.__class__")=some true
 hm:mroIn K C (.type "object")=some true
section
variable {prog:Program}{w:World}{A:Around}{E:Value→Shared→Prop}{s:Shared}{K:Frag}{x C:Addr}
end
end L3
namespace L3
open PySem PySem.Spec PyProof.Rows L2
abbrev bmV:List Value:=[.type "ValueError",.type "Exception",.type "BaseException",.type "object"]
theorem ϛm {K:PySem.W.Frag}{h:Heap}{C:Addr}{bB:List Value}{nid:String} (X:K.In h) (e:PySem.W.excIn K C bB nid=true) :
  ∃bm N nm q bs hd sn sub ab col dd k0 k1 k2 k3 k5 mN,h.get? C=some (excClassObj nm q C N bs bm hd sn sub ab col dd k0 k1 k2 k3 k5 nid)∧h.Ns N mN∧mN "__init__"=none∧OwnTail h bB bm:=by
 unfold PySem.W.excIn at e
 split at e
 ·rename_i dd cd slots hl
  split at e
  ·rename_i C1 bm k0 k1 k2 k3 n1 k5 hmro hslots
   simp only[Bool.and_eq_true,beq_iff_eq,Bool.not_eq_true'] at e
   obtain⟨⟨⟨⟨⟨e1,e2⟩,e3⟩,e4⟩,e5⟩,e6⟩:=e
   subst e1 e2
   obtain⟨a1,a2,a3,a4,a5,a6,a7,a8,a9,a10,a11⟩:=cd
   dsimp only at hmro e3 e5 e6
   subst hmro e3
   have es:slots=#[k0,k1,k2,k3,some (.builtin n1),k5]:=by
    obtain⟨l⟩:=slots
    simp only at hslots
    rw[hslots]
   subst es
   exact⟨bm,a4,a1,a5,a2,a6,a7,a8,a9,a10,dd,k0,k1,k2,k3,k5,_,X _ _ hl,.of_isNs (PySem.W.isNs_of_in X e5),PySem.W.nsMap_none_of_in X e5 e6,PySem.W.tail_of_in X e4⟩
  ·cases e
 ·cases e
structure OwnX (K:PySem.W.Frag) (mg:Str→Option Value) (x:Str) (C:Addr):Prop where
 nm:mg x=some (.ref C)
 ex:PySem.W.excIn K C bmV "ValueError.__new__"=true
section
variable {X:Cx}
def ϝV (X:Cx) (E:XK):Prop:=∀(pins:List (Addr×Obj)) (σ:L2.St) (H:Hp) (s:Shared) (h2:Heap) (x C:Addr) (vs:List Value),Inv X pins σ H s→Heap.MadeExcOf s.heap h2 x (.ref C) vs→E (.ref C) none H→X.xe (.ref x) { s with heap:=h2 }
def tRaise (C:Addr) (E:XK) (te:TE):TS:=fun _ σ H=>te σ H fun v H1=>[v].length=1∧E (.ref C) none H1
theorem ϱv {x:Str}{C:Addr}{E:XK}{e:Expr}{te:TE}{np cpos pos:Pos} (O:OwnX X.K X.mg x C) (hc:X.calm=true) (hg:Gl X x) (hR:ϝV X E) (he:PE X e te) (hd:(x == ("__debug__":Str))=false:=by decide)
  (hs:starEach [e] X.env=[(false,eval e X.env)]:=by rfl) (hpl:(backTo cpos (starEach [e] X.env)).any (·.1)=false:=by rfl):PS X (.Raise (some (.Call (.Name x np) [e] [] cpos)) none pos) (tRaise C E te):=by
 intro pins s σ H D I h
 obtain⟨bm,N,nm,q,bs,hdct,sn,sub,ab,col,dd,k0,k1,k2,k3,k5,mN,hC,hN,hni,T⟩:=ϛm (h:=X.base) I.ok.mod.kin O.ex
 have FV:=PySem.F.excBase_ValueError
 refine wpAny_Raise_call_subU (C:=C) (nm:=nm) (q:=q) (N:=N) (bs:=bs) (bm:=bm) (hdct:=hdct) (sn:=sn) (sub:=sub) (ab:=ab) (col:=col) (dd:=dd) (k0:=k0) (k1:=k1) (k2:=k2) (k3:=k3) (k5:=k5) (mN:=mN)
  FV (by decide) FV (T.hasType FV.hasBase) (I.ok.hd hc) hpl hni (ϵF I hg O.nm ⟨rfl,?_⟩ hd)
 have pa:PA X [e] (ϟ2 te tNil):=ϖa he ϖh hs
 rw[hs]
 refine Calls.evalArgs_plain ?_
 have run:=pa cpos pins s σ H (fun ws H1=>ws.length=1∧E (.ref C) none H1) I h
 rw[hs] at run
 refine wpAny_mono run (fun vs s2 ⟨ws,H2,I2,rv,hw,hE⟩=>?_) fun _ _ y=>y
 have hl:vs.length≤sizeLine:=by
  rw[← rv.length,hw];decide
 exact⟨rfl,hl,I2.bk _ _ hC,hN.keeps I2.bk,T.keeps I2.bk,fun h' x0 hm=>hR pins σ H2 s2 h' x0 C vs I2 hm hE⟩
def Cal1 (P:Program) (w:World) (K:PySem.W.Frag) (mg:Str→Option Value) (base:Heap) (x:Str) (ps:List Str) (k:Nat) (sp:Sp):Prop:=
 ∃f fd,FnOk P w K mg base (CX1 P w) k f fd ps sp∧Binds K fd ps []∧PySem.W.keepIn K (.ref f)=true∧mg x=some (.ref f)
def tFn1 (sp:Sp) (E:XK) (t:TA):TE:=fun σ H Q=>t σ H fun vs H1=>sp vs H1 Q E
theorem ϰG {x:Str}{ps:List Str}{k k':Nat}{sp:Sp}{E:XK}{p pos:Pos}{e:Expr}{es:List Expr}{t:TA} (C:Cal1 X.prog X.w X.K X.mg X.base x ps k sp) (hr:Room k' X.A) (hk:k≤k') (hg:Gl X x) (hx:ϵ7 (CX1 X.prog X.w) X E)
  (ha:PA X (e::es) t) (hdb:(x == ("__debug__":Str))=false:=by decide) (he:starEach (e::es) X.env=(false,eval e X.env)::starEach es X.env:=by rfl) (hpl:(backTo pos (starEach es X.env)).any (·.1)=false:=by rfl) :
  PE X (.Call (.Name x p) (e::es) [] pos) (tFn1 sp E t):=by
 obtain⟨f,fd,F,b,kp,hm⟩:=C
 intro pins s σ H Q I h
 refine wpAny_Call_Name_kw (ϵF I hg hm ?_ hdb)
 refine PySem.W.callWith_K (h₀:=X.base) I.ok.mod.kin kp (thn (ha pos pins s σ H _ I h) fun us s1 ⟨vs,H1,I1,r,q⟩=>⟨I1.kIn,?_⟩) he hpl
 exact ϝY (dvs:=[]) F (hr.mono hk) b .nil hx I1 r (by rw[List.append_nil];exact q)
theorem ϰ9:ϵ7 (CX1 X.prog X.w) X E0:=fun _ _ _ _ _ _ _ ⟨_,_,_,_,_,_,h⟩=>h.elim
end
section
variable {P:Program}{w:World}{K:PySem.W.Frag}{mg:Str→Option Value}{base:Heap}{N:List Str}{qual:Str}{scope:Scope}{f:Addr}{cd:Value}{A:Around}{outer:List Env}{s:Shared}{H:Hp}{E:XK}
theorem ϵw:ϵ7 (CX1 P w) (cxOf (CX1 P w) P w K mg base N qual scope f cd A outer s H E) E:=by
 intro pins σ H1 s1 e s2 I h
 obtain⟨x,C,H2,B,rfl,F,hE⟩:=h
 show wpAny (model P w) _ (leaving _ (.ref x)) _ _ s2
 exact ϟ9 I rfl rfl rfl F fun h' F'=>⟨x,C,H2,B,rfl,F',hE⟩
theorem ϱz:ϝV (cxOf (CX1 P w) P w K mg base N qual scope f cd A outer s H E) E:=by
 intro pins σ H1 s1 h2 x C vs I hm hE
 show wpAny (model P w) _ (leaving _ (.ref x)) _ _ _
 exact ϟj I rfl rfl rfl hm fun h' B F'=>⟨x,C,H1,B,rfl,F',hE⟩
theorem Fun.ok1 {x:Str}{st:Stmt}{fd:FuncData}{ps:List Str}{k:Nat}{sp:Sp} (F:Fun K x qual st f fd) (S:FnScope N ps (ϖj st)) (len:∀vs H Q E,sp vs H Q E→vs.length=ps.length)
  (hbody:∀(cdv:Value) (A:Around) (outer:List Env) (s:Shared) (H:Hp) (vs:List V) (Q:VK) (E:XK),Room k (A.deeper (envOfC qual (ϖj st) s.heap.objs.size f cdv))→sp vs H Q E →
   ∃t,PSs (cxOf (CX1 P w) P w K mg base N qual (ϖj st) f cdv A outer s H E) (ϖy st) t∧t { nx:=fun _ H'=>Q .non H',rt:=Q } (start N vs) H):FnOk P w K mg base (CX1 P w) (k+1) f fd ps sp:=by
 obtain⟨oc,od,kV,doc,pm,an,cdv,ct,osl,rfl,lk,hcd⟩:=F.ex
 exact fn_of lk hcd S len fun A outer s H vs Q E hr hsp=>hbody cdv A outer s H vs Q E hr hsp
end
section
variable {X:Cx}
end
end L3
namespace L3
open PySem PySem.Spec PyProof.Rows L2
section
variable {X:Cx}{pins:List (Addr×Obj)}{σ:L2.St}{H:Hp}{s:Shared}
end
end L3
namespace L3
open PySem PySem.Spec PyProof.Rows L2
section
variable {X:Cx}{pins:List (Addr×Obj)}{σ:L2.St}{H:Hp}{s:Shared}
end
end L3
namespace L3
open PySem PySem.Spec PyProof.Rows L2 PySem.W
section
variable {X:Cx}
end
end L3
namespace L3
open PySem PySem.Spec PyProof.Rows L2 PySem.W
section
variable {X:Cx}
end
end L3
namespace L3
open PySem PySem.Spec PyProof.Rows L2
end L3
namespace L3
open PySem PySem.Spec PyProof.Rows L2
theorem pe_or {X:Cx}{e:Expr}{t1 t2:TE} (h1:PE X e t1) (h2:PE X e t2):PE X e (fun σ H Q=>t1 σ H Q∨t2 σ H Q):=fun pins s σ H Q I h=>h.elim (h1 pins s σ H Q I) (h2 pins s σ H Q I)
end L3
namespace L3
open PySem PySem.Spec PyProof.Rows L2 PySem.W
section
variable {prog:Program}{w:World}{A:Around}{E:Value→Shared→Prop}{s:Shared}{x C:Addr}{K:Frag}
end
section
variable {X:Cx}
end
end L3
namespace L3
open PySem PySem.Spec PyProof.Rows L2 PySem.W
section
variable {X:Cx}
end
end L3
namespace L3
open PySem PySem.Spec PyProof.Rows L2
section
variable {prog:Program}{w:World}{κ:Type} [DecidableEq κ] {knd:HeapKind prog w κ}{A:Around}{E:Value→Shared→Prop}{s:Shared}
theorem ϛx {d a:Addr}{xs:List (κ×Addr×Value)}{k:κ}{v:Value}{Q:Value→Shared→Prop} (hu:knd.room A) (hkey:knd.is s.heap k a) (hm:s.heap.DictOfH knd d xs) (hsz:xs.length≤sizeLine)
  (h1:∀p,atKey xs k=some p→Q p.2 { s with toks:=s.toks+knd.draws k })
  (h2:atKey xs k=none→∀h',h'.DictOfH knd d (storedH xs k a v)→Heap.SameBut d s.heap h'→Q v { s with heap:=h',toks:=s.toks+knd.draws k }) :
  wpAny (model prog w) A (dictSetDefault d (.ref a) v) Q E s:=by
 obtain⟨o,es,ep,ho,hc,hd,he,his,hn⟩:=hm
 unfold dictSetDefault
 try with_reducible refine wpAny_holding ?_
 refine wpAny_bind (knd.pyHash hu hkey (wpAny_bind (wpAny_dictFind_heap (s:={ s with toks:=s.toks+knd.draws k }) hu hkey ho hd he his hn ?_ ?_)))
 ·intro hno
  have hnot:k∉xs.map (·.1):=not_mem_keys_of_get hno
  have hsn:=storedH_new (a:=a) (v:=v) (atKey_none_of_get hno)
  refine wpAny_bind (wpAny_rule (wpAny_bind (wpAny_updateDictKeys (hz:=by have e:=size_of_entries he;omega) (s:={ s with toks:=s.toks+knd.draws k }) ho hd (wpAny_pure
   (h2 (atKey_none_of_get hno) _ ⟨_,_,ep+1,Heap.get?_update_self _ ho (Obj.isFreed_of_dict (Obj.data_mapDictKeys hd _)),hc.mapDictKeys _,Obj.data_mapDictKeys hd _,?_,?_,?_⟩ (Heap.SameBut.update ..))))))
  ·rw[hsn];simp[he,entryOfKey]
  ·rw[hsn]
   intro x hx
   rcases List.mem_append.mp hx with hx|hx
   ·exact knd.keeps (his x hx) ho hd (Heap.SameBut.update ..)
   ·cases List.mem_singleton.mp hx
    exact knd.keeps hkey ho hd (Heap.SameBut.update ..)
  ·rw[hsn,List.map_append,List.nodup_append]
   refine⟨hn,by simp,fun x hx y hy=>?_⟩
   cases List.mem_singleton.mp hy
   exact fun e=>hnot ((show x=k from e)▸hx)
 ·intro j p hj
  refine wpAny_bind (wpAny_dictEntries (s:={ s with toks:=s.toks+knd.draws k }) ho hd ?_)
  rw[entry_at he j,hj]
  exact wpAny_bind (wpAny_rule (wpAny_pure (h1 _ (atKey_of_get hn hj))))
theorem ϝg {d a:Addr} (hd:(d == sysModules)=false) (dflt:Value) :
  MeetsIn prog w (Builtin.«dict.setdefault» ⟨[.ref d,.ref a,dflt],[]⟩) (fun A R s=>knd.room A.in1∧∃k xs,knd.is s.heap k a∧s.heap.DictOfH knd d xs∧xs.length≤sizeLine ∧
   (∀ p,atKey xs k=some p→R (.ok (.ret p.2)) { s with toks:=s.toks+knd.draws k }) ∧
   (atKey xs k=none→∀h',h'.DictOfH knd d (storedH xs k a dflt)→Heap.SameBut d s.heap h'→R (.ok (.ret dflt)) { s with heap:=h',toks:=s.toks+knd.draws k })):=
 .of_wp fun A R s ⟨hu,k,xs,hkey,hm,hz,h1,h2⟩=>by
  unfold Builtin.«dict.setdefault»
  refine wpAny_bind ?_
  unfold Builtin.Dict.keyAndDefault
  refine wpAny_bind (wpAny_notOrdered_dict hm.typeIs ?_)
  show wpAny _ _ (pure (d,Value.ref a,some dflt)) _ _ s
  refine wpAny_pure ?_
  show wpAny _ _ (if (d == sysModules)=true then _ else (dictSetDefault d (.ref a) dflt >>= _)) _ _ s
  rw[if_neg (by rw[hd];exact Bool.false_ne_true)]
  exact wpAny_bind (ϛx hu hkey hm hz (fun p hp=>wpAny_pure ⟨_,rfl,h1 p hp⟩) fun hn h' hm' hs'=>wpAny_pure ⟨_,rfl,h2 hn h' hm' hs'⟩)
end
section
variable {X:Cx}
def rSetD:V→List V→Hp→VK→Prop:=fun x vs H Q=>∃a y z,x=.ref a∧vs=[y,z] ∧
 ((∃ kvs k,H a=some (.dK kvs)∧y=kV k∧kvs.length < sizeLine∧(∀ r,valV kvs k=some r→Q r H)∧(valV kvs k=none→Q z (upd H a (.dK (putK kvs k z))))) ∨
  ∃kvs k b,H a=some (.dT kvs)∧y=.ref b∧H b=some (.tup (k.map kV))∧kvs.length < sizeLine∧(∀ r,valV kvs k=some r→Q r H)∧(valV kvs k=none→Q z (upd H a (.dT (putK kvs k z)))))
theorem ϟy (a b c:Value):argsOk "dict.setdefault" ⟨[a,b,c],[]⟩:=by unfold argsOk;kernel_rfl
theorem ϕ3 {k0:Nat} (hr:Room k0 X.A):MtR X "dict.setdefault" rSetD:=by
 intro pins s σ H x vs v us Q I rx rv h
 obtain⟨a,y,z,rfl,rfl,h⟩:=h
 cases rx
 obtain⟨u,r,rfl,ru,rr⟩:=ϡ3 rv
 rcases h with⟨kvs,k,e,rfl,hl,h1,h2⟩|⟨kvs,k,b,e,rfl,eb,hl,h1,h2⟩
 ·obtain⟨hz,hd,ws,rel,dd⟩:=dk_of I.hok e
  refine call_meetsIn PySem.F.slot_dict_setdefault dd.typeIs PySem.F.entry_dict_setdefault (ϟy _ _ _) (kt_meets_setdefault (ϖ0 X.prog X.w) a (ϲS ru) hd r)
   ⟨ws,dd,by rw[← rel.length];exact hz,fun v' hv'=>?_,fun hn h' dd' hs=>?_⟩
  ·have q:=rel.val k
   rw[hv'] at q
   cases hk:valV kvs k with
   |none=>rw[hk] at q;exact q.elim
   |some r'=>rw[hk] at q;exact⟨r',H,I.tok _,q,h1 r' hk⟩
  ·have q:=rel.val k
   rw[hn] at q
   cases hk:valV kvs k with
   |some r'=>rw[hk] at q;exact q.elim
   |none=>
    refine⟨z,_,ϵL I (by rw[e];exact True.intro) hs (let ⟨q,_,_,hq,_⟩:=dd';⟨q,hq⟩) (ϝP ?_ hd (rel.put k rr) dd'),rr,h2 hk⟩
    have:=ϑP kvs k z
    omega
 ·cases (show u=Value.ref b from ru)
  obtain⟨hz,hd,xs,rel,dd⟩:=dt_of I.hok e
  refine call_meetsIn PySem.F.slot_dict_setdefault dd.typeIs PySem.F.entry_dict_setdefault (ϟy _ _ _) (ϝg (knd:=tupleKind (ϖ0 X.prog X.w)) (d:=a) (a:=b) hd r)
   ⟨tupleKind_room_in1 (ϑN hr),k,xs,ϱR I.hok eb,dd,by rw[← Paired.length rel];exact hz,fun p hp=>?_,fun hn h' dd' hs=>?_⟩
  ·have q:=rel.val k
   rw[hp] at q
   cases hk:valV kvs k with
   |none=>rw[hk] at q;exact q.elim
   |some r'=>rw[hk] at q;exact⟨r',H,I.tok _,q,h1 r' hk⟩
  ·have q:=rel.val k
   rw[hn] at q
   cases hk:valV kvs k with
   |some r'=>rw[hk] at q;exact q.elim
   |none=>
    obtain⟨q,es,ep,hq,g2,g3,g4,_,g5⟩:=dd'
    refine⟨z,upd H a (.dT (putK kvs k z)),ϵL (ob:=.dT (putK kvs k z)) I (by rw[e];exact True.intro) hs ⟨q,hq⟩ ⟨?_,hd,_,(rel.put k eb rr).keeps fun c ys ec=>?_,q,es,ep,hq,g2,g3,g4,g5⟩,rr,h2 hk⟩
    ·have:=ϑP kvs k z
     omega
    ·rw[ϖq (ne_of ec e (fun z=>nomatch z))]
     exact ec
def rGet2:V→List V→Hp→VK→Prop:=fun x vs H Q=>∃a y z o,x=.ref a∧vs=[y,z]∧DGet H a y o∧Q (o.getD z) H
theorem ϲC {k0:Nat} (hr:Room k0 X.A):MtR X "dict.get" rGet2:=by
 intro pins s σ H x vs v us Q I rx rv h
 obtain⟨a,y,z,o,rfl,rfl,g,q⟩:=h
 cases rx
 obtain⟨u,r,rfl,ru,rr⟩:=ϡ3 rv
 exact d_get2 (ϑN hr) I g ru rr fun w' s' I' rw'=>⟨_,H,I',rw',q⟩
end
end L3
namespace L3
open PySem PySem.Spec PyProof.Rows L2
section
variable {X:Cx}{tg:Expr}
end
end L3
namespace L3
open PySem PySem.Spec PyProof.Rows L2 PySem.W
def RawD (d:Addr) (es:Array DictEntry) (p:Nat) (h:Heap):Prop:=∃b,h.get? d=some b∧b.ExactDict∧b.data=.dict es p
section
variable {prog:Program}{w:World}{A:Around}{E:Value→Shared→Prop}{s:Shared}{d it:Addr}{es:Array DictEntry}{p i:Nat}
theorem RawD.ty (r:RawD d es p s.heap):s.TypeIs (.ref d) "dict":=let ⟨b,e,x,_⟩:=r;⟨b,e,x.1⟩
theorem RawD.at {h h':Heap} (r:RawD d es p h) (k:∀o,h.get? d=some o→h'.get? d=some o):RawD d es p h':=let ⟨b,e,x⟩:=r;⟨b,k _ e,x⟩
theorem RawD.lt {h:Heap} (r:RawD d es p h):d < h.objs.size:=let ⟨_,e,_⟩:=r;Heap.lt_size e
theorem rd_iter {Q:Value→Shared→Prop} (lo:(d == sysModules)=false) (r:RawD d es p s.heap)
  (q:Q (.ref s.heap.objs.size) { s with heap:=s.heap.push { cls:=.type "dict_keyiterator",data:=.fields #[.ref d,.int 0 0,.int es.size 0,.int p 0] } }):wpAny (model prog w) A (pyIter (.ref d)) Q E s:=by
 obtain⟨b,eb,xb,db⟩:=id r
 refine wpAny_pyIter_slot r.ty PySem.F.slot_dict_iter (wpAny_call_entry PySem.F.slot_dict_iter r.ty PySem.F.entry_dict_iter ?_ (PySem.F.args_dict_iter_1 _))
 unfold Builtin.«dict.__iter__»
 refine wpAny_bind ?_
 unfold Builtin.Dict.dictSlotNone
 refine wpAny_bind (wpAny_notOrdered_dict r.ty ?_)
 show wpAny _ _ (pure (.ref d:Value)) _ _ s
 refine wpAny_pure ?_
 show wpAny _ _ (Builtin.Dict.showsAll d >>= fun _=>_) _ _ s
 unfold Builtin.Dict.showsAll
 rw[lo]
 refine wpAny_bind (wpAny_pure (wpAny_bind (wpAny_dictEntries eb db (wpAny_bind (wpAny_dictEpoch eb db ?_)))))
 exact wpAny_bind (wpAny_newObj_type (wpAny_pure ⟨_,rfl,_,_,⟨_,Heap.get?_push_size _ rfl,rfl⟩,PySem.F.slot_dict_keyiterator_next.lookup,q⟩))
theorem rd_item {Q:Option Value→Shared→Prop}{e:DictEntry} (st:s.heap.IsKeyIter it d i es.size p) (r:RawD d es p s.heap) (hx:es[i]?=some e)
  (q:∀h',h'.IsKeyIter it d (i+1) es.size p→Heap.SameBut it s.heap h'→Q (some e.key) { s with heap:=h' }):wpAny (model prog w) A (pyNext (.ref it)) Q E s:=by
 obtain⟨b,eb,cb,db⟩:=id st
 obtain⟨c,ec,xc,dc⟩:=id r
 unfold pyNext
 refine wpAny_bind (wpAny_attempt (wpAny_callSpecial?_slot (name:=Str.ofString "__next__") st.typeIs PySem.F.slot_dict_keyiterator_next (wpAny_call_entry PySem.F.slot_dict_keyiterator_next st.typeIs PySem.F.entry_dict_keyiterator_next ?_ (PySem.F.args_dict_keyiterator_next_1 _))))
 refine wpAny_bind (wpAny_pure (wpAny_bind (wpAny_bind ?_)))
 refine wpAny_bind (wpAny_typeNameOfWhole_keyiter st.typeIs (wpAny_pure (wpAny_bind (wpAny_fieldsOf eb db ?_))))
 have own:Builtin.Dict_items.ownsTuple "dict_keyiterator"=false:=by decide
 simp only[own,Bool.false_eq_true,if_false]
 show wpAny _ _ (if (Value.ref d == Value.none)=true then _ else _) _ _ _
 rw[if_neg (by intro z;cases z)]
 refine wpAny_bind (wpAny_pure (wpAny_bind (wpAny_dictEntries ec dc ?_)))
 rw[if_neg (by simp)]
 refine wpAny_bind (wpAny_pure (wpAny_bind (wpAny_dictEpoch ec dc ?_)))
 rw[if_neg (by simp)]
 refine wpAny_pure ?_
 simp only[show ¬ ((i:Int) < 0) by omega,if_false,Int.toNat_natCast,hx]
 refine wpAny_bind (wpAny_bind (wpAny_typeNameOfWhole_keyiter st.typeIs (wpAny_pure ?_)))
 refine wpAny_bind (wpAny_isOneOf_keyiter st.typeIs ?_)
 show wpAny _ _ (setField (.ref it) 1 (rawInt (i+1)) >>= _) _ _ _
 refine wpAny_bind (wpAny_setField eb db (by simp) ?_)
 have st':(s.heap.update it (Obj.mapFields (·.setIfInBounds 1 (rawInt ((i:Int)+1))))).IsKeyIter it d (i+1) es.size p:=
  ⟨_,Heap.get?_update_self _ eb (Obj.isFreed_of_fields (Obj.data_mapFields db _)),(Obj.cls_mapFields ..).trans cb,by rw[Obj.data_mapFields db];simp[rawInt]⟩
 refine wpAny_bind (wpAny_holding (wpAny_bind (wpAny_isOneOf_keyiter (s:={ s with heap:=_ }) st'.typeIs ?_)))
 show wpAny _ _ (pure e.key) _ _ _
 exact wpAny_pure (wpAny_pure ⟨_,rfl,wpAny_pure (q _ st' (Heap.SameBut.update ..))⟩)
theorem rd_end {Q:Option Value→Shared→Prop} (hh:A.handled=none) (st:s.heap.IsKeyIter it d i es.size p) (r:RawD d es p s.heap) (hx:es[i]?=none)
  (q:∀h',Heap.ExtBut it s.heap h'→Q none { s with heap:=h' }):wpAny (model prog w) A (pyNext (.ref it)) Q E s:=by
 obtain⟨b,eb,cb,db⟩:=id st
 obtain⟨c,ec,xc,dc⟩:=id r
 unfold pyNext
 refine wpAny_bind (wpAny_attempt (wpAny_callSpecial?_slot (name:=Str.ofString "__next__") st.typeIs PySem.F.slot_dict_keyiterator_next (wpAny_call_entry PySem.F.slot_dict_keyiterator_next st.typeIs PySem.F.entry_dict_keyiterator_next ?_ (PySem.F.args_dict_keyiterator_next_1 _))))
 refine wpAny_bind (wpAny_pure (wpAny_bind (wpAny_bind ?_)))
 refine wpAny_bind (wpAny_typeNameOfWhole_keyiter st.typeIs (wpAny_pure (wpAny_bind (wpAny_fieldsOf eb db ?_))))
 have own:Builtin.Dict_items.ownsTuple "dict_keyiterator"=false:=by decide
 simp only[own,Bool.false_eq_true,if_false]
 show wpAny _ _ (if (Value.ref d == Value.none)=true then _ else _) _ _ _
 rw[if_neg (by intro z;cases z)]
 refine wpAny_bind (wpAny_pure (wpAny_bind (wpAny_dictEntries ec dc ?_)))
 rw[if_neg (by simp)]
 refine wpAny_bind (wpAny_pure (wpAny_bind (wpAny_dictEpoch ec dc ?_)))
 rw[if_neg (by simp)]
 refine wpAny_pure ?_
 simp only[show ¬ ((i:Int) < 0) by omega,if_false,Int.toNat_natCast,hx]
 refine wpAny_bind (wpAny_bind (wpAny_typeNameOfWhole_keyiter st.typeIs (wpAny_pure ?_)))
 show wpAny _ _ (setField (.ref it) 0 Value.none >>= _) _ _ _
 refine wpAny_bind (wpAny_setField eb db (by simp) ?_)
 show wpAny _ _ (newExc (.type "StopIteration") ([]:List Value) >>= _) _ _ _
 refine wpAny_bind ?_
 simp only[newExc,newTuple]
 refine wpAny_bind (wpAny_newObj_type (wpAny_bind (m:=firstArgMember _ _) (wpAny_of_eq (a:=.none) (by first|rfl|(simp only[firstArgMember];rfl)) (wpAny_newObj_type ?_ (by size_fits)))) (by size_fits))
 simp only[raiseNew]
 refine wpAny_bind (wpAny_handled ?_)
 rw[show A.in1.handled=none from hh]
 refine wpAny_bind (wpAny_pure (wpAny_throw ?_))
 refine wpAny_bind (wpAny_isInstance (b:=true) (T:="StopIteration") ⟨_,Heap.get?_push_size _ rfl,rfl⟩ isSubtype_stop ?_)
 exact wpAny_pure (q _ (((Heap.SameBut.update ..).extBut.push _).push _))
theorem ϝb (hh:A.handled=none) (hne:d≠it) (es:Array DictEntry) (p:Nat) :
  Walks prog w A it [it,d] [it] es.size (fun i v=>∃e,es[i]?=some e∧v=e.key) (fun i h=>h.IsKeyIter it d i es.size p∧RawD d es p h) where
 sub:=fun b hb=>by simp at hb;simp[hb]
 frame:=fun _ _ _ st k=>⟨st.1.at fun o e=>k it (by simp) o e,st.2.at fun o e=>k d (by simp) o e⟩
 item:=fun i s Q E hi st q=>by
  have hx:es[i]?=some es[i]:=by simp[hi]
  exact rd_item st.1 st.2 hx fun h' st' sb=>q _ h' s.toks ⟨_,hx,rfl⟩ ⟨st',st.2.at fun o e=>sb.extBut d o hne e⟩ fun b o hb e=>sb.extBut b o (fun z=>hb (by simp[z])) e
 done:=fun s Q E st q=>rd_end hh st.1 st.2 (by simp) fun h' eb=>q h' s.toks fun b o hb e=>eb b o (fun z=>hb (by simp[z])) e
 self:=fun _ _ _ _ st q=>wpAny_pyIter_keyiter st.1 q
theorem ϝ5 (lo:(d == sysModules)=false):KdlSrc prog w "dict" d d es.size (fun i v=>∃e,es[i]?=some e∧v=e.key) (RawD d es p) where
 type:=fun _ r=>r.ty
 there:=fun _ r=>⟨r.lt,r.lt⟩
 keep:=fun _ _ r k=>r.at fun o e=>k d (.inl rfl) o e
 notList:=by decide
 notTuple:=by decide
 hint:=fun _ _ _ _ r q=>kdl_hint_dict r.ty q
 iter:=fun _ _ hh r=>⟨_,_,fun _ _ q=>rd_iter lo r q,ϝb hh (Nat.ne_of_lt r.lt) es p,⟨⟨_,Heap.get?_push_size _ rfl,rfl,rfl⟩,r.at fun o e=>Heap.get?_push_of_some _ e⟩⟩
end
end L3
namespace L3
open PySem PySem.Spec PyProof.Rows L2 PySem.W
section
variable {prog:Program}{w:World}{A:Around}{E:Value→Shared→Prop}{s:Shared}{d:Addr}{es:Array DictEntry}{p:Nat}
end
end L3
namespace L3
open PySem PySem.Spec PyProof.Rows L2 PySem.W
theorem ϖM {α β:Type}{F:α→β→Prop}:∀{l:List α}{m:List β}{i:Nat}{a:α},Paired F l m→l[i]?=some a→∃b,m[i]?=some b∧F a b
 |_,_,_,_,.nil,e=>by simp at e
 |_,_,0,_,.cons r _,e=>by simp at e;subst e;exact⟨_,rfl,r⟩
 |_,_,i+1,a,.cons _ t,e=>by
  obtain⟨b,h1,h2⟩:=ϖM (i:=i) (a:=a) t (by simpa using e)
  exact⟨b,by simpa using h1,h2⟩
theorem ϟp {ys:List V}{us:List Value} (hl:us.length=ys.length) (h:∀(i:Nat) (u:Value) (y:V),us[i]?=some u→ys[i]?=some y→RelV y u):Vals ys us:=by
 induction ys generalizing us with
 |nil=>cases us with|nil=>exact .nil|cons _ _=>cases hl
 |cons y ys ih=>
  cases us with
  |nil=>cases hl
  |cons u us=>exact .cons (h 0 u y rfl rfl) (ih (Nat.succ.inj hl) fun i u' y' e1 e2=>h (i+1) u' y' (by simpa using e1) (by simpa using e2))
section
variable {X:Cx}{pins:List (Addr×Obj)}{σ:L2.St}{H:Hp}{s:Shared}{a:Addr}
theorem raw_k {kvs:List (Key×V)} (I:Inv X pins σ H s) (e:H a=some (.dK kvs)):kvs.length≤sizeLine∧(a == sysModules)=false∧∃es p,RawD a es p s.heap∧es.size=kvs.length∧∀(i:Nat) (x:DictEntry) (kv:Key×V),es[i]?=some x→kvs[i]?=some kv→RelV (kV kv.1) x.key:=by
 obtain⟨z,lo,vs,r,o,es,p,h1,h2,h3,h4,h5,h6⟩:=(show ObjOk X.prog X.w H s.heap a (.dK kvs) from I.hok a _ e)
 have hsz:es.size=kvs.length:=by rw[r.length,← h5.length];simp
 refine⟨z,lo,es,p,⟨o,h1,h2,h3⟩,hsz,fun i x kv ex ek=>?_⟩
 obtain⟨q,hq,⟨e1,_⟩⟩:=ϖM r ek
 have hk:=(h5.get? (i:=i) (e:=x) (k:=q.1) (v:=q.2) (by rw[Array.getElem?_toList];exact ex) hq).1
 rw[e1]
 rcases ϑc hk with⟨n,t,h7,h8⟩|⟨n,t,h7,h8⟩
 ·rw[h7,h8];exact⟨t,rfl⟩
 ·rw[h7,h8];exact⟨t,rfl⟩
theorem raw_t {kvs:List (List Key×V)} (I:Inv X pins σ H s) (e:H a=some (.dT kvs)):kvs.length≤sizeLine∧(a == sysModules)=false∧∃es p,RawD a es p s.heap∧es.size=kvs.length ∧
  ∃bs:List Addr,Paired (fun (kv:List Key×V) b=>H b=some (.tup (kv.1.map kV))) kvs bs∧∀(i:Nat) (x:DictEntry) (b:Addr),es[i]?=some x→bs[i]?=some b→x.key=.ref b:=by
 obtain⟨z,lo,xs,r,o,es,p,h1,h2,h3,h4,h9⟩:=(show ObjOk X.prog X.w H s.heap a (.dT kvs) from I.hok a _ e)
 have hsz:es.size=kvs.length:=by rw[Paired.length r,← Array.length_toList,h4,List.length_map]
 refine⟨z,lo,es,p,⟨o,h1,h2,h3⟩,hsz,xs.map (·.2.1),?_,fun i x b ex eb=>?_⟩
 ·clear h4 h9 hsz z e
  induction r with
  |nil=>exact .nil
  |cons q _ ih=>exact .cons q.2.1 ih
 ·rw[← Array.getElem?_toList,h4,List.getElem?_map] at ex
  rw[List.getElem?_map] at eb
  cases hx:xs[i]? with
  |none=>rw[hx] at eb;cases eb
  |some q=>
   rw[hx] at ex eb
   cases ex
   cases eb
   rfl
def rListD:List V→Hp→VK→Prop:=fun xs H Q=>∃a,xs=[.ref a] ∧
 ((∃ kvs,H a=some (.dK kvs)∧∀l,H l=none→Q (.ref l) (upd H l (.lst (kvs.map fun kv=>kV kv.1)))) ∨
  ∃kvs,H a=some (.dT kvs)∧∀(bs:List Addr) l,Paired (fun (kv:List Key×V) b=>H b=some (.tup (kv.1.map kV))) kvs bs→H l=none→Q (.ref l) (upd H l (.lst (bs.map V.ref))))
theorem ϱH (hc:X.calm=true):ϱi X (.type "list") rListD:=by
 intro pins s σ H xs us Q I r h
 obtain⟨a,rfl,h⟩:=h
 obtain⟨u,rfl,ru⟩:=ϲU r
 cases ru
 have fin:∀(ys:List V) (es:Array DictEntry) (h':Heap) (tk:Nat) (acc:Array Value) (c:Nat),ys.length≤sizeLine→es.size=ys.length→(∀ (i:Nat) (x:DictEntry) (y:V),es[i]?=some x→ys[i]?=some y→RelV y x.key) →
   (∀ b o,s.heap.get? b=some o→h'.get? b=some o)→h'.get? s.heap.objs.size=some { cls:=.type "list",dict:=none,data:=.seq acc c,slots:=#[] }→ItemsOf (fun i v=>∃e,es[i]?=some e∧v=e.key) acc es.size →
   (∀ l,H l=none→Q (.ref l) (upd H l (.lst ys)))→EP X pins σ Q (.ref s.heap.objs.size) { s with heap:=h',toks:=tk }:=fun ys es h' tk acc c z hs hr kp e it q=>by
  refine⟨.ref s.heap.objs.size,_,I.laid (t':=tk) (o:=.lst ys) kp (Nat.le_refl _) ⟨z,acc.toList,c,ϟp (by rw[Array.length_toList,it.1,hs]) fun i u y e1 e2=>?_,?_⟩,rfl,q _ (I.hok.fresh (Nat.le_refl _))⟩
  ·obtain⟨x,ex,rfl⟩:=it.2 i u (by rw[← Array.getElem?_toList];exact e1)
   exact hr i x y ex e2
  ·rw[Array.toArray_toList];exact e
 rcases h with⟨kvs,e,q⟩|⟨kvs,e,q⟩
 ·obtain⟨z,lo,es,p,rr,hs,hr⟩:=raw_k I e
  refine kdl_call (ϝ5 (p:=p) lo) (I.ok.hd hc) rr (by rw[hs];exact z) fun h' tk acc c kp e' it=>fin _ es h' tk acc c (by rw[List.length_map];exact z) (by rw[List.length_map];exact hs) (fun i x y ex ey=>?_) kp e' it q
  rw[List.getElem?_map] at ey
  cases hk:kvs[i]? with
  |none=>rw[hk] at ey;cases ey
  |some kv=>rw[hk] at ey;cases ey;exact hr i x kv ex hk
 ·obtain⟨z,lo,es,p,rr,hs,bs,pb,hr⟩:=raw_t I e
  have hb:=Paired.length pb
  refine kdl_call (ϝ5 (p:=p) lo) (I.ok.hd hc) rr (by rw[hs];exact z) fun h' tk acc c kp e' it=>fin _ es h' tk acc c (by rw[List.length_map,← hb];exact z) (by rw[List.length_map,← hb];exact hs) (fun i x y ex ey=>?_) kp e' it fun l hl=>q bs l pb hl
  rw[List.getElem?_map] at ey
  cases hk:bs[i]? with
  |none=>rw[hk] at ey;cases ey
  |some b=>rw[hk] at ey;cases ey;exact hr i x b ex hk
end
end L3
namespace L3
open PySem PySem.Spec PyProof.Rows L2
end L3
namespace L3
open PySem PySem.Spec PyProof.Rows L2
end L3
namespace L3
open PySem PySem.Spec PyProof.Rows L2
section
variable {X:Cx}{pins:List (Addr×Obj)}{σ:List (Option V)}{H:Hp}{s:Shared}{h':Heap}
theorem ϛ3 {t':Nat}{e it:Addr} (I:Inv X pins σ H s) (k:∀b o,b≠e→b≠it→s.heap.get? b=some o→h'.get? b=some o) (fe:FpOk X pins H e) (fi:FpOk X pins H it):Inv X pins σ H { s with heap:=h',toks:=t' }:=by
 have ne:∀b u,H b=some u→b≠e∧b≠it:=fun b u q=>⟨(fun z=>by rw[z,fe.1] at q;cases q),(fun z=>by rw[z,fi.1] at q;cases q)⟩
 have kk:∀b o,b∉[e,it]→s.heap.get? b=some o→h'.get? b=some o:=fun b o hc q=>k b o (fun z=>hc (by simp[z])) (fun z=>hc (by simp[z])) q
 refine I.step (g':=s.gens) (d':=s.drawn) (ch:=[e,it]) ?_ (fun b o _ _ hc q _=>kk b o hc q) (fun b o _ _ hc q _=>⟨o.slots,kk b o hc q⟩) (fun _ _ _ _ n=>n)
  (fun b o hc q=>⟨o,kk b o hc q⟩) (fun _ _ q=>q) (fun _ _ _ q=>q) (fun b ps q=>⟨#[],by rw[q];simp⟩) ?_ ?_ I.bare
 ·intro b hb
  have hb:b=e∨b=it:=by simpa using hb
  rcases hb with rfl|rfl
  ·exact⟨fe.2.2.2.1,fe.2.1,fe.2.2.2.2.1,fe.2.2.2.2.2⟩
  ·exact⟨fi.2.2.2.1,fi.2.1,fi.2.2.2.2.1,fi.2.2.2.2.2⟩
 ·rintro m ⟨o,es,ep,ho,r⟩
  exact⟨o,es,ep,k _ o (Ne.symm fe.2.1) (Ne.symm fi.2.1) ho,r⟩
 ·intro b u q
  refine(I.hok b u q).stay (fun c v hc z=>?_) (fun _ z=>z) fun _ _ z=>z
  have:c≠e∧c≠it:=by
   rcases hc with y|y
   ·rw[y];exact ne b u q
   ·exact ne c _ y
  exact k c v this.1 this.2 z
end
def Ite (K:PySem.W.Frag) (a:Addr):It:=
 ⟨fun i H=>∃xs x,SqL K H a xs∧xs[i]?=some x,fun i H x H'=>∃p y,H p=none∧x=.ref p∧H'=upd H p (.tup [.int i,y])∧∀xs,SqL K H a xs→xs[i]?=some y,fun i H=>∃xs,SqL K H a xs∧xs.length≤i⟩
theorem ϟh {P:Program}{w:World}{K:PySem.W.Frag}{es:List Expr}{x1:Nat}{tp:Pos}{a e it:Addr} (hne:e≠it) :
  Turn P w K (.Tuple es x1 tp) (Ite K a) [e,it] e (fun i h=>∃old,IsEnum h e it (i:Int) old∧h.IsListIter it a i) where
 mem:=by simp
 obj:=by
  rintro i h ⟨old,he,o,e1,c,d⟩ b hb
  have hb:b=e∨b=it:=by simpa using hb
  rcases hb with rfl|rfl
  ·exact⟨_,he,fun v z=>by cases z⟩
  ·exact⟨o,e1,fun v z=>by rw[d] at z;cases z⟩
 keep:=by
  rintro i h h' ⟨old,he,st⟩ k
  exact⟨old,k e (by simp) _ he,st.at fun o q=>k it (by simp) o q⟩
 item:=by
  intro X hP hw hK hc i pins s σ H E I hf st hg
  subst hP hw hK
  obtain⟨old,he,hit⟩:=st
  obtain⟨xs,x,hq,hx⟩:=hg
  obtain⟨its,rv,p,hz⟩:=I.list hq
  obtain⟨u,hu,ru⟩:=rv.get hx
  have fe:=hf e (by simp)
  have fi:=hf it (by simp)
  refine wpAny_pyNext_enum_item he hit p.isList (x:=u) (by simpa using hu) hne fun h1 heo hit1 ht1 hz1 hk1=>⟨_,rfl,?_⟩
  refine wpAny_letOwnedTupleGo_enum heo fun h2 he2 hs2=>?_
  replace hs2:Heap.SameBut e h1 h2:=hs2
  have hel:e < s.heap.objs.size:=Heap.lt_size he
  have hil:it < s.heap.objs.size:=by obtain⟨o,ho,_⟩:=hit;exact Heap.lt_size ho
  have hp0:H s.heap.objs.size=none:=I.hok.fresh (Nat.le_refl _)
  have ht2:h2.get? s.heap.objs.size=some { cls:=.type "tuple",data:=.seq #[.int i s.toks,u] }:=(hs2.2 _ (Nat.ne_of_gt hel)).trans ht1
  have I1:Inv X pins σ (upd H s.heap.objs.size (.tup [.int i,x])) { s with heap:=s.heap.push { cls:=.type "tuple",data:=.seq #[.int i s.toks,u] },toks:=s.toks+1 }:=
   I.laid (fun b v q=>Heap.get?_push_of_some _ q) (Nat.le_refl _) ⟨by show 2≤sizeLine;decide,[.int i s.toks,u],.cons ⟨_,rfl⟩ (.cons ru .nil),⟨_,Heap.get?_push_size _ rfl,rfl,_,rfl⟩⟩
  have off:∀b,b < s.heap.objs.size→FpOk X pins H b→FpOk X pins (upd H s.heap.objs.size (.tup [.int i,x])) b:=fun b hb f=>⟨by rw[ϖq (Nat.ne_of_lt hb)];exact f.1,f.2⟩
  have I2:Inv X pins σ (upd H s.heap.objs.size (.tup [.int i,x])) { s with heap:=h2,toks:=s.toks+1 }:=ϛ3 (s:={ s with heap:=s.heap.push { cls:=.type "tuple",data:=.seq #[.int i s.toks,u] },toks:=s.toks+1 }) (t':=s.toks+1) I1 (fun b o n1 n2 q=>by
   replace q:(s.heap.push { cls:=.type "tuple",data:=.seq #[.int i s.toks,u] }).get? b=some o:=q
   rcases Heap.get?_push_cases q with⟨z,z'⟩|q'
   ·subst z;subst z';exact ht2
   ·exact(hs2.2 b n1).trans (hk1 b o n1 n2 q')) (off e hel fe) (off it hil fi)
  refine⟨.ref s.heap.objs.size,_,I2,rfl,⟨_,x,hp0,rfl,rfl,fun ys hy=>by rw[I.list_inj hy hq];exact hx⟩,⟨u,?_,?_⟩,fun b hb=>?_⟩
  ·have e1:((i+1:Nat):Int)=(i:Int)+1:=by push_cast;rfl
   rw[e1];exact he2
  ·exact hit1.extBut hs2.extBut (Ne.symm hne)
  ·have hb:b=e∨b=it:=by simpa using hb
   rcases hb with rfl|rfl
   ·exact(off _ hel fe).1
   ·exact(off _ hil fi).1
 done:=by
  intro X hP hw hK hc i pins s σ H E I hf st hg
  subst hP hw hK
  obtain⟨old,he,hit⟩:=st
  obtain⟨xs,hq,hx⟩:=hg
  obtain⟨its,rv,p,hz⟩:=I.list hq
  have hl:=rv.length
  obtain⟨f0,f1,f2,f3,f4,f5⟩:=hf it (by simp)
  exact wpAny_pyNext_enum_end (I.ok.hd hc) he hit p.isList (by simp;omega) fun h' eb=>⟨rfl,I.turned (t':=s.toks) (fun b o hb q=>eb b o hb q) f0 f1 f3 f4 f5⟩
 self:=fun _ _ _ _ _ ⟨_,he,_⟩ h=>wpAny_pyIter_enum he h
section
variable {X:Cx}
def iEnu (K:PySem.W.Frag) (ta:TA):TI:=fun σ H R=>ta σ H fun vs H1=>∃a,vs=[.ref a]∧(∃ xs,SqL K H1 a xs)∧R (Ite K a) H1
theorem ϵq {l:Expr}{ta:TA}{p pos tp:Pos}{es:List Expr}{x1:Nat} (hg:Gl X "enumerate") (hm:X.mg "enumerate"=none) (ha:PA X [l] ta) (hs:starEach [l] X.env=[(false,eval l X.env)]:=by rfl) :
  PI X (.Tuple es x1 tp) (.Call (.Name "enumerate" p) [l] [] pos) (iEnu X.K ta):=by
 intro pins s σ H R I h
 refine Call_ (ϱK I hg hm boot_enumerate (PyProof.Rows.callWith_type1 (thn (ha pos pins s σ H _ I h) fun us s1 ⟨vs,H1,I1,r1,q1⟩=>?_) hs rfl))
 obtain⟨a,rfl,⟨xs,hq⟩,q⟩:=q1
 cases r1 with
 |cons r rr=>
  cases rr
  cases r
  obtain⟨its,rv,pL,hz⟩:=I1.list hq
  refine call_enumerate_list pL.isList fun h' he hit hz' hk=>?_
  refine wpAny_pyIter_enum he ?_
  refine⟨_,[s1.heap.objs.size+1,s1.heap.objs.size],_,_,H1,rfl,I1.kept (t':=s1.toks) hk,ϟh (e:=s1.heap.objs.size+1) (it:=s1.heap.objs.size) (Nat.succ_ne_self _),⟨.none,he,hit⟩,fun b hb=>?_,q⟩
  have hb:b=s1.heap.objs.size+1∨b=s1.heap.objs.size:=by simpa using hb
  rcases hb with rfl|rfl
  ·exact I1.fpOk (by omega) (I1.hok.fresh (by omega))
  ·exact I1.fpOk (Nat.le_refl _) (I1.hok.fresh (Nat.le_refl _))
end
theorem ϛ9 {K:PySem.W.Frag}{a:Addr}{xs:List V}{g:TG}{tb:TS}{D:Ends}{σ:L2.St}{H:Hp} (Pv:Nat→L2.St→Hp→Prop) (h0:Pv 0 σ H) (hl:∀i σ H,i≤xs.length→Pv i σ H→SqL K H a xs)
  (hs:∀i x p σ H,xs[i]?=some x→Pv i σ H→H p=none→g (.ref p) σ (upd H p (.tup [.int i,x])) fun σ2 H2=>tb { D with nx:=Pv (i+1),ct:=Pv (i+1),bk:=D.nx } σ2 H2) (hd:∀σ H,Pv xs.length σ H→D.nx σ H) :
  ∃W:Nat→Nat→L2.St→Hp→Prop,(∃ m,W 0 m σ H)∧∀i m σ H,W i m σ H →
   ((Ite K a).stop i H∧D.nx σ H)∨((Ite K a).go i H∧∃N:L2.St→Hp→Prop,(∀ σ' H',N σ' H'→∃m',m' < m∧W (i+1) m' σ' H')∧∀x H',(Ite K a).yld i H x H'→g x σ H' fun σ2 H2=>tb { D with nx:=N,ct:=N,bk:=D.nx } σ2 H2):=by
 refine⟨fun i m σ H=>m=xs.length-i∧i≤xs.length∧Pv i σ H,⟨xs.length,by simp,Nat.zero_le _,h0⟩,?_⟩
 rintro i m σ H ⟨rfl,hi,p⟩
 have q:=hl i σ H hi p
 by_cases hlt:i < xs.length
 ·refine .inr ⟨⟨xs,xs[i],q,by simp[hlt]⟩,Pv (i+1),fun σ' H' p'=>⟨xs.length-(i+1),by omega,rfl,hlt,p'⟩,fun x H' y=>?_⟩
  obtain⟨b,z,hb,rfl,rfl,y⟩:=y
  exact hs i z b σ H (y xs q) p hb
 ·have e:i=xs.length:=by omega
  subst e
  exact .inl ⟨⟨xs,q,Nat.le_refl _⟩,hd σ H p⟩
end L3
namespace L3
open PySem PySem.Spec PyProof.Rows L2
theorem ϕN {K:PySem.W.Frag}{a:Addr}{xs:List V}{g:TG}{tb:TS}{D:Ends}{σ:L2.St}{H:Hp} (Pv:Nat→L2.St→Hp→Prop) (h0:Pv 0 σ H) (hl:∀i σ H,i≤xs.length→Pv i σ H→SqL K H a xs)
  (hs:∀(b:L2.St→Hp→Prop) (r:VK),b=D.nx→r=D.rt→∀i x p σ H,xs[i]?=some x→Pv i σ H→H p=none→g (.ref p) σ (upd H p (.tup [.int i,x])) fun σ2 H2=>tb { nx:=Pv (i+1),rt:=r,bk:=b,ct:=Pv (i+1) } σ2 H2) (hd:∀σ H,Pv xs.length σ H→D.nx σ H) :
  ∃W:Nat→Nat→L2.St→Hp→Prop,(∃ m,W 0 m σ H)∧∀i m σ H,W i m σ H →
   ((Ite K a).stop i H∧D.nx σ H)∨((Ite K a).go i H∧∃N:L2.St→Hp→Prop,(∀ σ' H',N σ' H'→∃m',m' < m∧W (i+1) m' σ' H')∧∀x H',(Ite K a).yld i H x H'→g x σ H' fun σ2 H2=>tb { D with nx:=N,ct:=N,bk:=D.nx } σ2 H2):=ϛ9 Pv h0 hl (hs _ _ rfl rfl) hd
end L3
namespace L3
open PySem PySem.Spec PyProof.Rows L2
section
variable {X:Cx}{pins:List (Addr×Obj)}{σ:List (Option V)}{H:Hp}{s:Shared}
theorem ϝ8 {a:Addr}{kvs:List (Key×V)} (I:Inv X pins σ H s) (e:H a=some (.dK kvs)):∃o,s.heap.get? a=some o∧Inv X pins σ (upd H a (.frz o (.dK kvs))) s:=by
 have x:=(show ObjOk X.prog X.w H s.heap a (.dK kvs) from I.hok a _ e)
 obtain⟨z,lo,vs,r,o,es,p,h1,h2⟩:=id x
 refine⟨o,h1,?_⟩
 have:=I.write (x:=a) (e:=a) (h':=s.heap) (t':=s.toks) (o:=.frz o (.dK kvs)) (by rw[e];trivial) (.inl rfl) (fun b u _ q=>q) ⟨o,h1⟩ ⟨h1,z,lo,vs,r,o,es,p,h1,h2⟩
 exact this
end
theorem ϡ4 {H:Hp}{d:Addr}{o:Obj}{a b:List (Key×V)} (h1:H d=some (.frz o (.dK a))) (h2:H d=some (.frz o (.dK b))):a=b:=by
 rw[h1] at h2;injection h2 with h2;injection h2 with _ h2;injection h2
section
variable {X:Cx}{tg:Expr}
end
end L3
namespace L3
open PySem PySem.Spec PyProof.Rows L2
section
variable {X:Cx}
end
end L3
namespace L3
open PySem PySem.Spec PyProof.Rows L2
def Itm (d:Addr) (o:Obj):It:=
 ⟨fun i H=>∃kvs kv,H d=some (.frz o (.dK kvs))∧kvs[i]?=some kv,fun i H x H'=>∃p k y,H p=none∧x=.ref p∧H'=upd H p (.tup [kV k,y])∧∀kvs,H d=some (.frz o (.dK kvs))→kvs[i]?=some (k,y),fun i H=>∃kvs,H d=some (.frz o (.dK kvs))∧kvs.length≤i⟩
theorem ϱ5:entryFor table "dict_itemiterator.__iter__"=some Builtin.«dict_keyiterator.__iter__»:=
 entryFor_alias (id':="dict_keyiterator.__iter__") (by kernel_rfl) (by first|rfl|decide +kernel) (by decide +kernel) (by kernel_rfl)
theorem ϰY {prog:Program}{w:World}{A:Around}{E:Value→Shared→Prop}{s:Shared}{it d:Addr}{i n ep:Nat}{ok ov:Value}{Q:Value→Shared→Prop} (hit:IsItemIter s.heap it d i n ep ok ov) (h:Q (.ref it) s):wpAny (model prog w) A (pyIter (.ref it)) Q E s:=by
 have hT:s.TypeIs (.ref it) "dict_itemiterator":=⟨_,hit,rfl⟩
 refine wpAny_pyIter_slot hT F.slot_dict_itemiterator_iter (wpAny_call_entry F.slot_dict_itemiterator_iter hT ϱ5 ?_ (F.args_dict_itemiterator_iter_1 _))
 show wpAny _ _ (ret (.ref it)) _ _ s
 exact wpAny_pure ⟨_,rfl,"dict_itemiterator",_,hT,F.slot_dict_itemiterator_next.lookup,h⟩
theorem ϡJ {P:Program}{w:World}{K:PySem.W.Frag}{es0:List Expr}{x1:Nat}{tp:Pos}{d it:Addr}{o:Obj}{es:Array DictEntry}{ep:Nat} (ho:o.data=.dict es ep) :
  Turn P w K (.Tuple es0 x1 tp) (Itm d o) [it] it (fun i h=>∃ok ov,IsItemIter h it d i es.size ep ok ov) where
 mem:=by simp
 obj:=by
  rintro i h ⟨ok,ov,he⟩ b hb
  have hb:b=it:=by simpa using hb
  subst hb
  exact⟨_,he,fun v z=>by cases z⟩
 keep:=by
  rintro i h h' ⟨ok,ov,he⟩ k
  exact⟨ok,ov,k it (by simp) _ he⟩
 item:=by
  intro X hP hw hK hc i pins s σ H E I hf st hg
  subst hP hw hK
  obtain⟨kvs,kv,e,hx⟩:=hg
  obtain⟨ok,ov,st⟩:=st
  obtain⟨g1,z,lo,vs,r,o',es',ep',h1,h2,h3,h4,h5,h6⟩:=(show ObjOk X.prog X.w H s.heap d (.frz o (.dK kvs)) from I.hok d _ e)
  have eo:o'=o:=by rw[h1] at g1;injection g1
  subst eo
  rw[h3] at ho
  injection ho with e1 e2
  subst e1;subst e2
  have hsz:es'.size=vs.length:=by rw[← h5.length];simp
  obtain⟨q,hq,⟨k1,rv⟩⟩:=ϖM r hx
  obtain⟨f0,f1,f2,f3,f4,f5⟩:=hf it (by simp)
  rw[hsz] at st
  refine wpAny_pyNext_items_item (knd:=ϖ0 X.prog X.w) (k:=q.1) (v:=q.2) st ⟨o',es',h1,h2,h3,h4,h5,h6⟩ hq fun key h' hk st' ht hz' hk'=>⟨_,rfl,?_⟩
  refine wpAny_letOwnedTupleGo_items st' fun h2' st2 sb=>?_
  replace sb:Heap.SameBut it h' h2':=sb
  have hil:it < s.heap.objs.size:=Heap.lt_size st
  have hp0:H s.heap.objs.size=none:=I.hok.fresh (Nat.le_refl _)
  have ht2:h2'.get? s.heap.objs.size=some { cls:=.type "tuple",data:=.seq #[key,q.2] }:=(sb.2 _ (Nat.ne_of_gt hil)).trans ht
  have rk:RelV (kV kv.1) key:=by
   rw[k1]
   rcases ϑc hk with⟨n,t,h7,h8⟩|⟨n,t,h7,h8⟩
   ·rw[h7,h8];exact⟨t,rfl⟩
   ·rw[h7,h8];exact⟨t,rfl⟩
  have I1:Inv X pins σ (upd H s.heap.objs.size (.tup [kV kv.1,kv.2])) { s with heap:=s.heap.push { cls:=.type "tuple",data:=.seq #[key,q.2] } }:=
   I.laid (t':=s.toks) (fun b v q=>Heap.get?_push_of_some _ q) (Nat.le_refl _) ⟨by show 2≤sizeLine;decide,[key,q.2],.cons rk (.cons rv .nil),⟨_,Heap.get?_push_size _ rfl,rfl,_,rfl⟩⟩
  have off:(upd H s.heap.objs.size (.tup [kV kv.1,kv.2])) it=none:=by rw[ϖq (Nat.ne_of_lt hil)];exact f0
  have I2:Inv X pins σ (upd H s.heap.objs.size (.tup [kV kv.1,kv.2])) { s with heap:=h2' }:=Inv.turned (s:={ s with heap:=s.heap.push { cls:=.type "tuple",data:=.seq #[key,q.2] } }) (t':=s.toks) I1 (fun b u n1 q'=>by
   replace q':(s.heap.push { cls:=.type "tuple",data:=.seq #[key,q.2] }).get? b=some u:=q'
   rcases Heap.get?_push_cases q' with⟨z,z'⟩|q''
   ·subst z;subst z';exact ht2
   ·exact(sb.2 b n1).trans (hk' b u n1 q'')) off f1 f3 f4 f5
  refine⟨.ref s.heap.objs.size,_,I2,rfl,⟨_,kv.1,kv.2,hp0,rfl,rfl,fun ws hw=>by rw[ϡ4 hw e];exact hx⟩,⟨_,_,by rw[hsz];exact st2⟩,fun b hb=>?_⟩
  have hb:b=it:=by simpa using hb
  subst hb
  exact off
 done:=by
  intro X hP hw hK hc i pins s σ H E I hf st hg
  subst hP hw hK
  obtain⟨kvs,e,hx⟩:=hg
  obtain⟨ok,ov,st⟩:=st
  obtain⟨g1,z,lo,vs,r,o',es',ep',h1,h2,h3,h4,h5,h6⟩:=(show ObjOk X.prog X.w H s.heap d (.frz o (.dK kvs)) from I.hok d _ e)
  have eo:o'=o:=by rw[h1] at g1;injection g1
  subst eo
  rw[h3] at ho
  injection ho with e1 e2
  subst e1;subst e2
  have hsz:es'.size=vs.length:=by rw[← h5.length];simp
  have hvl:kvs.length=vs.length:=r.length
  obtain⟨f0,f1,f2,f3,f4,f5⟩:=hf it (by simp)
  rw[hsz] at st
  exact wpAny_pyNext_items_end (knd:=ϖ0 X.prog X.w) (I.ok.hd hc) st ⟨o',es',h1,h2,h3,h4,h5,h6⟩ (List.getElem?_eq_none (by omega)) fun h' eb=>⟨rfl,I.turned (t':=s.toks) (fun b u hb q=>eb b u hb q) f0 f1 f3 f4 f5⟩
 self:=fun _ _ _ _ _ ⟨_,_,st⟩ h=>ϰY st h
section
variable {X:Cx}
def iItems (to:TE):TI:=fun σ H R=>to σ H fun x H1=>∃d kvs,x=.ref d∧H1 d=some (.dK kvs)∧∀o,R (Itm d o) (upd H1 d (.frz o (.dK kvs)))
theorem ϝy {l:Expr}{to:TE}{apos cpos tp:Pos}{es0:List Expr}{x1:Nat} (ho:PE X l to) (hbase:attributeBase l "items" X.env (eval l X.env)=eval l X.env:=by rfl) (hline:(apos.endLine == cpos.line)=true:=by rfl) :
  PI X (.Tuple es0 x1 tp) (.Call (.Attribute l "items" apos) [] [] cpos) (iItems to):=by
 intro pins s σ H R I h
 refine wpAny_Call_method0_late hbase hline (thn (ho pins s σ H _ I h) fun v s1 ⟨x,H1,I1,r1,q1⟩=>?_)
 obtain⟨d,kvs,e,hd,q⟩:=q1
 subst e
 cases r1
 obtain⟨o,h0,I2⟩:=ϝ8 I1 hd
 obtain⟨z,lo,vs,r,o',es,ep,h1,h2,h3,h4,h5,h6⟩:=(show ObjOk X.prog X.w H1 s1.heap d (.dK kvs) from I1.hok d _ hd)
 have eo:o'=o:=by rw[h1] at h0;injection h0
 subst eo
 have hsz:es.size=vs.length:=by rw[← h5.length];simp
 have hD:s1.heap.DictOf (ϖ0 X.prog X.w) d vs:=⟨o',es,ep,h1,h2,h3,h4,h5,h6⟩
 refine⟨"dict","dict.items",PySem.F.plainAttrs_dict,PySem.F.slot_dict_items,PySem.F.type_dict_items,hD.typeIs,fun a ea=>?_,?_⟩
 ·cases ea;exact⟨o',h1,h2.2.1⟩
 refine Calls.callWith_builtin rfl (PySem.evalArgs_none ?_)
 refine call_meetsIn PySem.F.slot_dict_items hD.typeIs PySem.F.entry_dict_items (PySem.F.args_dict_items_1 _) (meets_dict_items (ϖ0 X.prog X.w) d lo) ⟨⟨vs,hD⟩,?_⟩
 have hD1:(s1.heap.push { cls:=.type "dict_items",data:=.fields #[.ref d] }).DictAt (ϖ0 X.prog X.w) d vs ep:=⟨o',es,Heap.get?_push_of_some _ h1,h2,h3,h4,h5,h6⟩
 refine wpAny_pyIter_items (s:={ s1 with heap:=s1.heap.push { cls:=.type "dict_items",data:=.fields #[.ref d] } }) (v:=s1.heap.objs.size) (d:=d) ⟨_,Heap.get?_push_size _ rfl,rfl,rfl⟩ hD1 ?_
 have I3:=I2.kept (t':=s1.toks) (h':=s1.heap.push { cls:=.type "dict_items",data:=.fields #[.ref d] }) fun b u e=>Heap.get?_push_of_some _ e
 refine⟨_,[_],_,_,_,rfl,I3.kept (t':=s1.toks) fun b u e=>Heap.get?_push_of_some _ e,ϡJ h3,⟨_,_,by rw[hsz];exact Heap.get?_push_size _ rfl⟩,fun b hb=>?_,q o'⟩
 rw[List.mem_singleton.mp hb]
 exact I3.fpOk (Nat.le_refl _) (I3.hok.fresh (Nat.le_refl _))
end
end L3
namespace L3
open PySem PySem.Spec PyProof.Rows L2 PySem.W
section
variable {prog:Program}{w:World}{A:Around}{E:Value→Shared→Prop}{s:Shared}{d it:Addr}{es:Array DictEntry}{p i:Nat}
theorem ϡ8 (lo:(d == sysModules)=false):MeetsIn prog w (Builtin.«dict.items» ⟨[.ref d],[]⟩) (fun _ R s=>(∃ es p,RawD d es p s.heap)∧R (.ok (.ret (.ref s.heap.objs.size))) { s with heap:=s.heap.push { cls:=.type "dict_items",data:=.fields #[.ref d] } }):=
 .of_wp fun A R s ⟨⟨es,p,r⟩,q⟩=>by
  unfold Builtin.«dict.items» Builtin.Dict.noArgs
  refine wpAny_bind (wpAny_bind (wpAny_notOrdered_dict r.ty ?_))
  show wpAny _ _ (Pure.pure d) _ _ s
  refine wpAny_pure ?_
  show wpAny _ _ (Builtin.Dict.showsAll d >>= fun _=>_) _ _ s
  unfold Builtin.Dict.showsAll
  rw[lo]
  exact wpAny_bind (wpAny_pure (wpAny_bind (wpAny_newObj_type (wpAny_pure ⟨_,rfl,q⟩))))
theorem ϟJ {v:Addr}{Q:Value→Shared→Prop} (hv:s.heap.IsItemsView v d) (r:RawD d es p s.heap)
  (q:Q (.ref s.heap.objs.size) { s with heap:=s.heap.push { cls:=.type "dict_itemiterator",data:=.fields #[.none,.bool false,.ref d,.int 0 0,.int es.size 0,.int p 0,.none,.none] } }):wpAny (model prog w) A (pyIter (.ref v)) Q E s:=by
 obtain⟨a,ea,ca,da⟩:=id hv
 obtain⟨b,eb,xb,db⟩:=id r
 refine wpAny_pyIter_slot hv.typeIs PySem.F.slot_dict_items_iter (wpAny_call_entry PySem.F.slot_dict_items_iter hv.typeIs PySem.F.entry_dict_items_iter ?_ (PySem.F.args_dict_items_iter_1 _))
 unfold Builtin.«dict_items.__iter__» Builtin.Dict_items.dictOf Builtin.Dict_items.newIterator
 refine wpAny_bind (wpAny_pure (wpAny_bind (wpAny_bind (wpAny_field ea da (x:=.ref d) rfl (wpAny_pure ?_)))))
 refine wpAny_bind (wpAny_bind (wpAny_dictEntries eb db (wpAny_bind (wpAny_dictEpoch eb db ?_))))
 have own:Builtin.Dict_items.ownsTuple "dict_itemiterator"=true:=by decide
 simp only[own,if_true]
 refine wpAny_newObj_type (wpAny_pure ⟨_,rfl,_,_,⟨_,Heap.get?_push_size _ rfl,rfl⟩,PySem.F.slot_dict_itemiterator_next.lookup,?_⟩) (by simp only[sizeOk,Builtin.Dict_items.ownedTupleFields,List.size_toArray,List.length_append,List.length_cons,List.length_nil,sizeLine_eq];omega)
 simpa [rawInt,Builtin.Dict_items.ownedTupleFields] using q
theorem ϛl {Q:Option Value→Shared→Prop}{e:DictEntry}{ok ov:Value} (st:IsItemIter s.heap it d i es.size p ok ov) (r:RawD d es p s.heap) (hx:es[i]?=some e)
  (q:∀h',IsItemIterOut h' it d (i+1) es.size p e.key e.val s.heap.objs.size→h'.get? s.heap.objs.size=some { cls:=.type "tuple",data:=.seq #[e.key,e.val] } →
   (∀ b o,b≠it→s.heap.get? b=some o→h'.get? b=some o)→Q (some (.ref s.heap.objs.size)) { s with heap:=h' }):wpAny (model prog w) A (pyNext (.ref it)) Q E s:=by
 obtain⟨hp,g,dr,tk,os⟩:=s
 obtain⟨c,ec,xc,dc⟩:=id r
 have ty:Shared.TypeIs ⟨hp,g,dr,tk,os⟩ (.ref it) "dict_itemiterator":=⟨_,st,rfl⟩
 unfold pyNext
 refine wpAny_bind (wpAny_attempt (wpAny_callSpecial?_slot (name:=Str.ofString "__next__") ty PySem.F.slot_dict_itemiterator_next (wpAny_call_entry PySem.F.slot_dict_itemiterator_next ty PySem.F.entry_dict_itemiterator_next ?_ (PySem.F.args_dict_itemiterator_next_1 _))))
 refine wpAny_bind (wpAny_pure (wpAny_bind (wpAny_bind ?_)))
 refine wpAny_bind (wpAny_typeNameOfWhole_itemiter ty (wpAny_pure (wpAny_bind (wpAny_fieldsOf st rfl ?_))))
 have own:Builtin.Dict_items.ownsTuple "dict_itemiterator"=true:=by decide
 simp only[own,if_true]
 show wpAny _ _ (if (Value.ref d == Value.none)=true then _ else _) _ _ _
 rw[if_neg (by intro z;cases z)]
 refine wpAny_bind (wpAny_pure (wpAny_bind (wpAny_dictEntries ec dc ?_)))
 rw[if_neg (by simp)]
 refine wpAny_bind (wpAny_pure (wpAny_bind (wpAny_dictEpoch ec dc ?_)))
 rw[if_neg (by simp)]
 refine wpAny_pure ?_
 simp only[show ¬ ((i:Int) < 0) by omega,if_false,Int.toNat_natCast,hx]
 refine wpAny_bind (wpAny_bind (wpAny_typeNameOfWhole_itemiter ty (wpAny_pure (wpAny_bind (wpAny_isOneOf_itemiter ty ?_)))))
 show wpAny _ _ (setField (.ref it) 3 (rawInt (i+1)) >>= _) _ _ _
 refine wpAny_bind (wpAny_setField_rec st (by simp) fun k1 f1 u1=>?_)
 replace u1:Heap.SameBut it hp k1:=u1
 replace f1:IsItemIter k1 it d (i+1) es.size p ok ov:=by
  have z:((i+1:Nat):Int)=(i:Int)+1:=by omega
  unfold IsItemIter;rw[z];simpa [rawInt] using f1
 have ty1:Shared.TypeIs ⟨k1,g,dr,tk,os⟩ (.ref it) "dict_itemiterator":=⟨_,f1,rfl⟩
 refine wpAny_bind (wpAny_holding (wpAny_bind (wpAny_isOneOf_itemiter ty1 (wpAny_bind (wpAny_isOneOf_itemiter ty1 ?_)))))
 show wpAny _ _ (Builtin.Dict_items.pairFromOwner (.ref it) 6 e.key e.val) _ _ _
 unfold Builtin.Dict_items.pairFromOwner Builtin.Dict_items.ownedTupleIsFree
 refine wpAny_bind (wpAny_newTuple ?_)
 have sz:k1.objs.size=hp.objs.size:=u1.1
 have lt:it < hp.objs.size:=Heap.lt_size st
 obtain⟨k2,ek⟩:∃k2,k2=k1.push { cls:=.type "tuple",data:=.seq #[e.key,e.val] }:=⟨_,rfl⟩
 have f2:IsItemIter k2 it d (i+1) es.size p ok ov:=ek▸Heap.get?_push_of_some _ f1
 have t2:k2.get? hp.objs.size=some { cls:=.type "tuple",data:=.seq #[e.key,e.val] }:=by rw[ek,← sz];exact Heap.get?_push_size _ rfl
 have g2:∀b o,b≠it→hp.get? b=some o→k2.get? b=some o:=fun b o n z=>by rw[ek];exact Heap.get?_push_of_some _ (u1.extBut b o n z)
 rw[← ek,sz]
 show wpAny _ _ _ _ _ (Shared.mk k2 g dr tk os)
 clear ek f1 u1 ty1 sz k1
 refine wpAny_bind (wpAny_bind (wpAny_field f2 rfl (x:=.none) rfl (wpAny_pure ?_)))
 simp only[if_true]
 refine wpAny_bind (wpAny_field f2 rfl (x:=ok) rfl (wpAny_bind (wpAny_field f2 rfl (x:=ov) rfl ?_)))
 refine wpAny_bind (wpAny_setField_rec f2 (by simp) fun k3 f3 u3=>?_)
 replace u3:Heap.SameBut it k2 k3:=u3
 replace f3:IsItemIter k3 it d (i+1) es.size p e.key ov:=f3
 refine wpAny_bind (wpAny_setField_rec f3 (by simp) fun k4 f4 u4=>?_)
 replace u4:Heap.SameBut it k3 k4:=u4
 replace f4:IsItemIter k4 it d (i+1) es.size p e.key e.val:=f4
 refine wpAny_bind (wpAny_setField_rec f4 (by simp) fun k5 f5 u5=>?_)
 replace u5:Heap.SameBut it k4 k5:=u5
 replace f5:IsItemIterOut k5 it d (i+1) es.size p e.key e.val hp.objs.size:=f5
 refine wpAny_bind (wpAny_setField_rec f5 (by simp) fun k6 f6 u6=>?_)
 replace u6:Heap.SameBut it k5 k6:=u6
 replace f6:IsItemIterOut k6 it d (i+1) es.size p e.key e.val hp.objs.size:=f6
 have up:∀b o,b≠it→k2.get? b=some o→k6.get? b=some o:=fun b o n z=>u6.extBut b o n (u5.extBut b o n (u4.extBut b o n (u3.extBut b o n z)))
 exact wpAny_bind (wpAny_letGo (wpAny_pure (wpAny_pure ⟨_,rfl,wpAny_pure (q k6 f6 (up _ _ (Nat.ne_of_gt lt) t2) fun b o n z=>up b o n (g2 b o n z))⟩)))
theorem rp_end {Q:Option Value→Shared→Prop}{ok ov:Value} (hh:A.handled=none) (st:IsItemIter s.heap it d i es.size p ok ov) (r:RawD d es p s.heap) (hx:es[i]?=none)
  (q:∀h',Heap.ExtBut it s.heap h'→Q none { s with heap:=h' }):wpAny (model prog w) A (pyNext (.ref it)) Q E s:=by
 obtain⟨c,ec,xc,dc⟩:=id r
 have ty:s.TypeIs (.ref it) "dict_itemiterator":=⟨_,st,rfl⟩
 unfold pyNext
 refine wpAny_bind (wpAny_attempt (wpAny_callSpecial?_slot (name:=Str.ofString "__next__") ty PySem.F.slot_dict_itemiterator_next (wpAny_call_entry PySem.F.slot_dict_itemiterator_next ty PySem.F.entry_dict_itemiterator_next ?_ (PySem.F.args_dict_itemiterator_next_1 _))))
 refine wpAny_bind (wpAny_pure (wpAny_bind (wpAny_bind ?_)))
 refine wpAny_bind (wpAny_typeNameOfWhole_itemiter ty (wpAny_pure (wpAny_bind (wpAny_fieldsOf st rfl ?_))))
 have own:Builtin.Dict_items.ownsTuple "dict_itemiterator"=true:=by decide
 simp only[own,if_true]
 show wpAny _ _ (if (Value.ref d == Value.none)=true then _ else _) _ _ _
 rw[if_neg (by intro z;cases z)]
 refine wpAny_bind (wpAny_pure (wpAny_bind (wpAny_dictEntries ec dc ?_)))
 rw[if_neg (by simp)]
 refine wpAny_bind (wpAny_pure (wpAny_bind (wpAny_dictEpoch ec dc ?_)))
 rw[if_neg (by simp)]
 refine wpAny_pure ?_
 simp only[show ¬ ((i:Int) < 0) by omega,if_false,Int.toNat_natCast,hx]
 refine wpAny_bind (wpAny_bind (wpAny_typeNameOfWhole_itemiter ty (wpAny_pure ?_)))
 show wpAny _ _ (setField (.ref it) 2 Value.none >>= _) _ _ _
 refine wpAny_bind (wpAny_setField st rfl (by simp) ?_)
 show wpAny _ _ (newExc (.type "StopIteration") ([]:List Value) >>= _) _ _ _
 refine wpAny_bind ?_
 simp only[newExc,newTuple]
 refine wpAny_bind (wpAny_newObj_type (wpAny_bind (m:=firstArgMember _ _) (wpAny_of_eq (a:=.none) (by first|rfl|(simp only[firstArgMember];rfl)) (wpAny_newObj_type ?_ (by size_fits)))) (by size_fits))
 simp only[raiseNew]
 refine wpAny_bind (wpAny_handled ?_)
 rw[show A.in1.handled=none from hh]
 refine wpAny_bind (wpAny_pure (wpAny_throw ?_))
 refine wpAny_bind (wpAny_isInstance (b:=true) (T:="StopIteration") ⟨_,Heap.get?_push_size _ rfl,rfl⟩ isSubtype_stop ?_)
 exact wpAny_pure (q _ (((Heap.SameBut.update ..).extBut.push _).push _))
end
section
variable {X:Cx}{pins:List (Addr×Obj)}{σ:List (Option V)}{H:Hp}{s:Shared}
theorem ϝ_ {a:Addr}{kvs:List (List Key×V)} (I:Inv X pins σ H s) (e:H a=some (.dT kvs)):∃o,s.heap.get? a=some o∧Inv X pins σ (upd H a (.frz o (.dT kvs))) s:=by
 have x:=(show ObjOk X.prog X.w H s.heap a (.dT kvs) from I.hok a _ e)
 obtain⟨z,lo,xs,r,o,es,p,h1,h2⟩:=id x
 refine⟨o,h1,?_⟩
 have ne:∀c ys,H c=some (.tup ys)→c≠a:=fun c ys ec hz=>by rw[hz,e] at ec;cases ec
 exact I.write (x:=a) (e:=a) (h':=s.heap) (t':=s.toks) (o:=.frz o (.dT kvs)) (by rw[e];trivial) (.inl rfl) (fun b u _ q=>q) ⟨o,h1⟩ ⟨h1,z,lo,xs,ϖb (fun _ _ q=>⟨q.1,(ϖq (ne _ _ q.2.1)).trans q.2.1,q.2.2⟩) r,o,es,p,h1,h2⟩
end
def Itt (d:Addr) (o:Obj):It:=
 ⟨fun i H=>∃kvs kv,H d=some (.frz o (.dT kvs))∧kvs[i]?=some kv,fun i H x H'=>∃p b k y,H p=none∧x=.ref p∧H b=some (.tup (k.map kV))∧H'=upd H p (.tup [.ref b,y])∧∀kvs,H d=some (.frz o (.dT kvs))→kvs[i]?=some (k,y),fun i H=>∃kvs,H d=some (.frz o (.dT kvs))∧kvs.length≤i⟩
theorem ϝk {H:Hp}{d:Addr}{o:Obj}{a b:List (List Key×V)} (h1:H d=some (.frz o (.dT a))) (h2:H d=some (.frz o (.dT b))):a=b:=by
 rw[h1] at h2;injection h2 with h2;injection h2 with _ h2;injection h2
theorem ϵl {P:Program}{w:World}{K:PySem.W.Frag}{es0:List Expr}{x1:Nat}{tp:Pos}{d it:Addr}{o:Obj}{es:Array DictEntry}{ep:Nat} (ho:o.data=.dict es ep) :
  Turn P w K (.Tuple es0 x1 tp) (Itt d o) [it] it (fun i h=>∃ok ov,IsItemIter h it d i es.size ep ok ov) where
 mem:=by simp
 obj:=by
  rintro i h ⟨ok,ov,he⟩ b hb
  have hb:b=it:=by simpa using hb
  subst hb
  exact⟨_,he,fun v z=>by cases z⟩
 keep:=by
  rintro i h h' ⟨ok,ov,he⟩ k
  exact⟨ok,ov,k it (by simp) _ he⟩
 item:=by
  intro X hP hw hK hc i pins s σ H E I hf st hg
  subst hP hw hK
  obtain⟨kvs,kv,e,hx⟩:=hg
  obtain⟨ok,ov,st⟩:=st
  obtain⟨g1,z,lo,xs,r,o',es',ep',h1,h2,h3,h4,h5⟩:=(show ObjOk X.prog X.w H s.heap d (.frz o (.dT kvs)) from I.hok d _ e)
  have eo:o'=o:=by rw[h1] at g1;injection g1
  subst eo
  rw[h3] at ho
  injection ho with e1 e2
  subst e1;subst e2
  obtain⟨q,hq,k1,k2,rv⟩:=ϖM r hx
  obtain⟨f0,f1,f2,f3,f4,f5⟩:=hf it (by simp)
  have hen:es'[i]?=some (entryOfKey (tupleKind (ϖ0 X.prog X.w)) q):=by rw[← Array.getElem?_toList,h4,List.getElem?_map,hq];rfl
  refine ϛl st ⟨o',h1,h2,h3⟩ hen fun h' st' ht hk'=>⟨_,rfl,?_⟩
  refine wpAny_letOwnedTupleGo_items st' fun h2' st2 sb=>?_
  replace sb:Heap.SameBut it h' h2':=sb
  have hil:it < s.heap.objs.size:=Heap.lt_size st
  have hp0:H s.heap.objs.size=none:=I.hok.fresh (Nat.le_refl _)
  have ht2:h2'.get? s.heap.objs.size=some { cls:=.type "tuple",data:=.seq #[.ref q.2.1,q.2.2] }:=(sb.2 _ (Nat.ne_of_gt hil)).trans ht
  have I1:Inv X pins σ (upd H s.heap.objs.size (.tup [.ref q.2.1,kv.2])) { s with heap:=s.heap.push { cls:=.type "tuple",data:=.seq #[.ref q.2.1,q.2.2] } }:=
   I.laid (t':=s.toks) (fun b v q=>Heap.get?_push_of_some _ q) (Nat.le_refl _) ⟨by show 2≤sizeLine;decide,[.ref q.2.1,q.2.2],.cons rfl (.cons rv .nil),⟨_,Heap.get?_push_size _ rfl,rfl,_,rfl⟩⟩
  have off:(upd H s.heap.objs.size (.tup [.ref q.2.1,kv.2])) it=none:=by rw[ϖq (Nat.ne_of_lt hil)];exact f0
  have I2:Inv X pins σ (upd H s.heap.objs.size (.tup [.ref q.2.1,kv.2])) { s with heap:=h2' }:=Inv.turned (s:={ s with heap:=s.heap.push { cls:=.type "tuple",data:=.seq #[.ref q.2.1,q.2.2] } }) (t':=s.toks) I1 (fun b u n1 q'=>by
   replace q':(s.heap.push { cls:=.type "tuple",data:=.seq #[.ref q.2.1,q.2.2] }).get? b=some u:=q'
   rcases Heap.get?_push_cases q' with⟨z,z'⟩|q''
   ·subst z;subst z';exact ht2
   ·exact(sb.2 b n1).trans (hk' b u n1 q'')) off f1 f3 f4 f5
  refine⟨.ref s.heap.objs.size,_,I2,rfl,⟨_,q.2.1,kv.1,kv.2,hp0,rfl,k2,rfl,fun ws hw=>by rw[ϝk hw e];exact hx⟩,⟨_,_,st2⟩,fun b hb=>?_⟩
  have hb:b=it:=by simpa using hb
  subst hb
  exact off
 done:=by
  intro X hP hw hK hc i pins s σ H E I hf st hg
  subst hP hw hK
  obtain⟨kvs,e,hx⟩:=hg
  obtain⟨ok,ov,st⟩:=st
  obtain⟨g1,z,lo,xs,r,o',es',ep',h1,h2,h3,h4,h5⟩:=(show ObjOk X.prog X.w H s.heap d (.frz o (.dT kvs)) from I.hok d _ e)
  have eo:o'=o:=by rw[h1] at g1;injection g1
  subst eo
  rw[h3] at ho
  injection ho with e1 e2
  subst e1;subst e2
  have hsz:es'.size=kvs.length:=by rw[Paired.length r,← Array.length_toList,h4,List.length_map]
  obtain⟨f0,f1,f2,f3,f4,f5⟩:=hf it (by simp)
  exact rp_end (I.ok.hd hc) st ⟨o',h1,h2,h3⟩ (Array.getElem?_eq_none (by omega)) fun h' eb=>⟨rfl,I.turned (t':=s.toks) (fun b u hb q=>eb b u hb q) f0 f1 f3 f4 f5⟩
 self:=fun _ _ _ _ _ ⟨_,_,st⟩ h=>ϰY st h
section
variable {X:Cx}
def iPairs (to:TE):TI:=fun σ H R=>to σ H fun x H1=>∃d kvs,x=.ref d∧H1 d=some (.dT kvs)∧∀o,R (Itt d o) (upd H1 d (.frz o (.dT kvs)))
theorem ϝB {l:Expr}{to:TE}{apos cpos tp:Pos}{es0:List Expr}{x1:Nat} (ho:PE X l to) (hbase:attributeBase l "items" X.env (eval l X.env)=eval l X.env:=by rfl) (hline:(apos.endLine == cpos.line)=true:=by rfl) :
  PI X (.Tuple es0 x1 tp) (.Call (.Attribute l "items" apos) [] [] cpos) (iPairs to):=by
 intro pins s σ H R I h
 refine wpAny_Call_method0_late hbase hline (thn (ho pins s σ H _ I h) fun v s1 ⟨x,H1,I1,r1,q1⟩=>?_)
 obtain⟨d,kvs,e,hd,q⟩:=q1
 subst e
 cases r1
 obtain⟨o,h0,I2⟩:=ϝ_ I1 hd
 obtain⟨z,lo,xs,r,o',es,ep,h1,h2,h3,h4,h5⟩:=(show ObjOk X.prog X.w H1 s1.heap d (.dT kvs) from I1.hok d _ hd)
 have eo:o'=o:=by rw[h1] at h0;injection h0
 subst eo
 have rr:RawD d es ep s1.heap:=⟨o',h1,h2,h3⟩
 refine⟨"dict","dict.items",PySem.F.plainAttrs_dict,PySem.F.slot_dict_items,PySem.F.type_dict_items,rr.ty,fun a ea=>?_,?_⟩
 ·cases ea;exact⟨o',h1,h2.2.1⟩
 refine Calls.callWith_builtin rfl (PySem.evalArgs_none ?_)
 refine call_meetsIn PySem.F.slot_dict_items rr.ty PySem.F.entry_dict_items (PySem.F.args_dict_items_1 _) (ϡ8 lo) ⟨⟨es,ep,rr⟩,?_⟩
 have r1:RawD d es ep (s1.heap.push { cls:=.type "dict_items",data:=.fields #[.ref d] }):=rr.at fun o e=>Heap.get?_push_of_some _ e
 refine ϟJ (s:={ s1 with heap:=s1.heap.push { cls:=.type "dict_items",data:=.fields #[.ref d] } }) (v:=s1.heap.objs.size) (d:=d) ⟨_,Heap.get?_push_size _ rfl,rfl,rfl⟩ r1 ?_
 have I3:=I2.kept (t':=s1.toks) (h':=s1.heap.push { cls:=.type "dict_items",data:=.fields #[.ref d] }) fun b u e=>Heap.get?_push_of_some _ e
 refine⟨_,[_],_,_,_,rfl,I3.kept (t':=s1.toks) fun b u e=>Heap.get?_push_of_some _ e,ϵl h3,⟨_,_,Heap.get?_push_size _ rfl⟩,fun b hb=>?_,q o'⟩
 rw[List.mem_singleton.mp hb]
 exact I3.fpOk (Nat.le_refl _) (I3.hok.fresh (Nat.le_refl _))
end
theorem ϡN {d:Addr}{o:Obj}{kvs:List (List Key×V)}{g:TG}{tf:TT}{te:TE}{τ:L2.St}{H:Hp}{Q:VK} (Pv:Nat→List V→L2.St→Hp→Prop) (h0:Pv 0 [] τ H) (hl:∀i ys τ H,Pv i ys τ H→H d=some (.frz o (.dT kvs)))
  (hs:∀i k y p b ys τ H,kvs[i]?=some (k,y)→Pv i ys τ H→H p=none→H b=some (.tup (k.map kV))→g (.ref p) τ (upd H p (.tup [.ref b,y])) fun τ2 H2=>tf τ2 H2 fun z H3=>if z=true then te τ2 H3 fun y H4=>ys.length < sizeLine∧Pv (i+1) (ys++[y]) τ2 H4 else Pv (i+1) ys τ2 H3)
  (hd:∀ys τ H,Pv kvs.length ys τ H→∀p,H p=none→Q (.ref p) (upd H p (.lst ys))):ϵf (Itt d o) g tf te Q τ H:=by
 refine⟨fun i m ys τ H=>m=kvs.length-i∧i≤kvs.length∧Pv i ys τ H,⟨kvs.length,by simp,Nat.zero_le _,h0⟩,?_⟩
 rintro i m ys τ H ⟨rfl,hi,p⟩
 have q:=hl i ys τ H p
 by_cases hlt:i < kvs.length
 ·refine .inr ⟨⟨kvs,kvs[i],q,by simp[hlt]⟩,Pv (i+1),fun ys' τ' H' p'=>⟨kvs.length-(i+1),by omega,rfl,hlt,p'⟩,fun x H' y=>?_⟩
  obtain⟨p0,b,k,z,hp,rfl,hb,rfl,y⟩:=y
  exact hs i k z p0 b ys τ H (y kvs q) p hp hb
 ·have e:i=kvs.length:=by omega
  subst e
  exact .inl ⟨⟨kvs,q,Nat.le_refl _⟩,hd ys τ H p⟩
theorem ϡz {d:Addr}{o:Obj}{kvs:List (Key×V)}{g:TG}{tf:TT}{te:TE}{τ:L2.St}{H:Hp}{Q:VK} (Pv:Nat→List V→L2.St→Hp→Prop) (h0:Pv 0 [] τ H) (hl:∀i ys τ H,Pv i ys τ H→H d=some (.frz o (.dK kvs)))
  (hs:∀i k y p ys τ H,kvs[i]?=some (k,y)→Pv i ys τ H→H p=none→g (.ref p) τ (upd H p (.tup [kV k,y])) fun τ2 H2=>tf τ2 H2 fun z H3=>if z=true then te τ2 H3 fun y H4=>ys.length < sizeLine∧Pv (i+1) (ys++[y]) τ2 H4 else Pv (i+1) ys τ2 H3)
  (hd:∀ys τ H,Pv kvs.length ys τ H→∀p,H p=none→Q (.ref p) (upd H p (.lst ys))):ϵf (Itm d o) g tf te Q τ H:=by
 refine⟨fun i m ys τ H=>m=kvs.length-i∧i≤kvs.length∧Pv i ys τ H,⟨kvs.length,by simp,Nat.zero_le _,h0⟩,?_⟩
 rintro i m ys τ H ⟨rfl,hi,p⟩
 have q:=hl i ys τ H p
 by_cases hlt:i < kvs.length
 ·refine .inr ⟨⟨kvs,kvs[i],q,by simp[hlt]⟩,Pv (i+1),fun ys' τ' H' p'=>⟨kvs.length-(i+1),by omega,rfl,hlt,p'⟩,fun x H' y=>?_⟩
  obtain⟨p0,k,z,hp,rfl,rfl,y⟩:=y
  exact hs i k z p0 ys τ H (y kvs q) p hp
 ·have e:i=kvs.length:=by omega
  subst e
  exact .inl ⟨⟨kvs,q,Nat.le_refl _⟩,hd ys τ H p⟩
end L3
namespace L3
open PySem PySem.Spec PyProof.Rows L2 PySem.W
def Itv (d:Addr) (o:Obj):It:=
 ⟨fun i H=>∃kvs kv,H d=some (.frz o (.dK kvs))∧kvs[i]?=some kv,fun i H x H'=>H'=H∧∀kvs,H d=some (.frz o (.dK kvs))→∃kv,kvs[i]?=some kv∧x=kv.2,fun i H=>∃kvs,H d=some (.frz o (.dK kvs))∧kvs.length≤i⟩
theorem ϟS {P:Program}{w:World}{K:PySem.W.Frag}{tg:Expr}{d it:Addr}{o:Obj}{es:Array DictEntry}{ep:Nat} (ho:o.data=.dict es ep) :
  Turn P w K tg (Itv d o) [it] it (fun i h=>h.IsValIter it d i es.size ep) where
 mem:=by simp
 obj:=by
  rintro i h ⟨q,e1,c,d⟩ b hb
  have hb:b=it:=by simpa using hb
  subst hb
  exact⟨q,e1,fun v z=>by rw[d] at z;cases z⟩
 keep:=by
  rintro i h h' ⟨q,e1,r⟩ k
  exact⟨q,k it (by simp) q e1,r⟩
 item:=by
  intro X hP hw hK hc i pins s σ H E I hf st hg
  subst hP hw hK
  obtain⟨kvs,kv,e,hx⟩:=hg
  obtain⟨g1,z,lo,vs,r,o',es',ep',h1,h2,h3,h4,h5,h6⟩:=(show ObjOk X.prog X.w H s.heap d (.frz o (.dK kvs)) from I.hok d _ e)
  have eo:o'=o:=by rw[h1] at g1;injection g1
  subst eo
  rw[h3] at ho
  injection ho with e1 e2
  subst e1;subst e2
  have hsz:es'.size=vs.length:=by rw[← h5.length];simp
  obtain⟨q,hq,⟨_,rv⟩⟩:=ϖM r hx
  obtain⟨f0,f1,f2,f3,f4,f5⟩:=hf it (by simp)
  rw[hsz] at st
  refine wpAny_pyNext_values_item (knd:=ϖ0 X.prog X.w) (k:=q.1) (v:=q.2) st ⟨o',es',h1,h2,h3,h4,h5,h6⟩ hq fun h' st' sb=>?_
  have I1:Inv X pins σ H { s with heap:=h' }:=I.turned (t':=s.toks) (fun b u hb e=>(sb.2 b hb).trans e) f0 f1 f3 f4 f5
  obtain⟨q2,e2,c2,d2⟩:=id st'
  rw[← hsz] at st'
  exact⟨q.2,rfl,ϛZ (s:={ s with heap:=h' }) e2 c2 d2 (by decide) ⟨kv.2,H,I1,rv,⟨rfl,fun ws hw=>⟨kv,by rw[ϡ4 hw e];exact hx,rfl⟩⟩,st',fun b hb=>(hf b hb).1⟩⟩
 done:=by
  intro X hP hw hK hc i pins s σ H E I hf st hg
  subst hP hw hK
  obtain⟨kvs,e,hx⟩:=hg
  obtain⟨g1,z,lo,vs,r,o',es',ep',h1,h2,h3,h4,h5,h6⟩:=(show ObjOk X.prog X.w H s.heap d (.frz o (.dK kvs)) from I.hok d _ e)
  have eo:o'=o:=by rw[h1] at g1;injection g1
  subst eo
  rw[h3] at ho
  injection ho with e1 e2
  subst e1;subst e2
  have hsz:es'.size=vs.length:=by rw[← h5.length];simp
  have hvl:kvs.length=vs.length:=r.length
  obtain⟨f0,f1,f2,f3,f4,f5⟩:=hf it (by simp)
  rw[hsz] at st
  exact wpAny_pyNext_values_end (knd:=ϖ0 X.prog X.w) (I.ok.hd hc) st ⟨o',es',h1,h2,h3,h4,h5,h6⟩ (List.getElem?_eq_none (by omega)) fun h' eb=>⟨rfl,I.turned (t':=s.toks) (fun b u hb q=>eb b u hb q) f0 f1 f3 f4 f5⟩
 self:=fun _ _ _ _ _ st h=>wpAny_pyIter_valiter st h
section
variable {X:Cx}{tg:Expr}
def iVals (to:TE):TI:=fun σ H R=>to σ H fun x H1=>∃d kvs,x=.ref d∧H1 d=some (.dK kvs)∧∀o,R (Itv d o) (upd H1 d (.frz o (.dK kvs)))
theorem ϛY {l:Expr}{to:TE}{apos cpos:Pos} (ho:PE X l to) (hbase:attributeBase l "values" X.env (eval l X.env)=eval l X.env:=by rfl) (hline:(apos.endLine == cpos.line)=true:=by rfl) :
  PI X tg (.Call (.Attribute l "values" apos) [] [] cpos) (iVals to):=by
 intro pins s σ H R I h
 refine wpAny_Call_method0_late hbase hline (thn (ho pins s σ H _ I h) fun v s1 ⟨x,H1,I1,r1,q1⟩=>?_)
 obtain⟨d,kvs,e,hd,q⟩:=q1
 subst e
 cases r1
 obtain⟨o,h0,I2⟩:=ϝ8 I1 hd
 obtain⟨z,lo,vs,r,o',es,ep,h1,h2,h3,h4,h5,h6⟩:=(show ObjOk X.prog X.w H1 s1.heap d (.dK kvs) from I1.hok d _ hd)
 have eo:o'=o:=by rw[h1] at h0;injection h0
 subst eo
 have hsz:es.size=vs.length:=by rw[← h5.length];simp
 have hD:s1.heap.DictOf (ϖ0 X.prog X.w) d vs:=⟨o',es,ep,h1,h2,h3,h4,h5,h6⟩
 refine⟨"dict","dict.values",PySem.F.plainAttrs_dict,PySem.F.slot_dict_values,PySem.F.type_dict_values,hD.typeIs,fun a ea=>?_,?_⟩
 ·cases ea;exact⟨o',h1,h2.2.1⟩
 refine Calls.callWith_builtin rfl (PySem.evalArgs_none ?_)
 refine call_meetsIn PySem.F.slot_dict_values hD.typeIs PySem.F.entry_dict_values (PySem.F.args_dict_values_1 _) (meets_dict_values (ϖ0 X.prog X.w) d lo) ⟨⟨vs,hD⟩,?_⟩
 have hD1:(s1.heap.push { cls:=.type "dict_values",data:=.fields #[.ref d] }).DictAt (ϖ0 X.prog X.w) d vs ep:=⟨o',es,Heap.get?_push_of_some _ h1,h2,h3,h4,h5,h6⟩
 refine wpAny_pyIter_values (s:={ s1 with heap:=s1.heap.push { cls:=.type "dict_values",data:=.fields #[.ref d] } }) (v:=s1.heap.objs.size) (d:=d) ⟨_,Heap.get?_push_size _ rfl,rfl,rfl⟩ hD1 ?_
 have I3:=I2.kept (t':=s1.toks) (h':=s1.heap.push { cls:=.type "dict_values",data:=.fields #[.ref d] }) fun b u e=>Heap.get?_push_of_some _ e
 refine⟨_,[_],_,_,_,rfl,I3.kept (t':=s1.toks) fun b u e=>Heap.get?_push_of_some _ e,ϟS h3,⟨_,Heap.get?_push_size _ rfl,rfl,by rw[hsz];rfl⟩,fun b hb=>?_,q o'⟩
 rw[List.mem_singleton.mp hb]
 exact I3.fpOk (Nat.le_refl _) (I3.hok.fresh (Nat.le_refl _))
end
theorem ϝr {d:Addr}{o:Obj}{kvs:List (Key×V)}{g:TG}{tb:TS}{D:Ends}{σ:L2.St}{H:Hp} (Pv:Nat→L2.St→Hp→Prop) (h0:Pv 0 σ H) (hl:∀i σ H,i≤kvs.length→Pv i σ H→H d=some (.frz o (.dK kvs)))
  (hs:∀i k y σ H,kvs[i]?=some (k,y)→Pv i σ H→g y σ H fun σ2 H2=>tb { D with nx:=Pv (i+1),ct:=Pv (i+1),bk:=D.nx } σ2 H2) (hd:∀σ H,Pv kvs.length σ H→D.nx σ H) :
  ∃W:Nat→Nat→L2.St→Hp→Prop,(∃ m,W 0 m σ H)∧∀i m σ H,W i m σ H →
   ((Itv d o).stop i H∧D.nx σ H)∨((Itv d o).go i H∧∃N:L2.St→Hp→Prop,(∀ σ' H',N σ' H'→∃m',m' < m∧W (i+1) m' σ' H')∧∀x H',(Itv d o).yld i H x H'→g x σ H' fun σ2 H2=>tb { D with nx:=N,ct:=N,bk:=D.nx } σ2 H2):=by
 refine⟨fun i m σ H=>m=kvs.length-i∧i≤kvs.length∧Pv i σ H,⟨kvs.length,rfl,Nat.zero_le _,h0⟩,?_⟩
 rintro i m σ H ⟨rfl,hi,p⟩
 have q:=hl i σ H hi p
 by_cases hlt:i < kvs.length
 ·refine .inr ⟨⟨kvs,kvs[i],q,List.getElem?_eq_getElem hlt⟩,Pv (i+1),fun σ' H' p'=>⟨kvs.length-(i+1),by omega,rfl,hlt,p'⟩,fun x H' y=>?_⟩
  obtain⟨rfl,y⟩:=y
  obtain⟨⟨k,z⟩,hk,hx⟩:=y kvs q
  have hx:x=z:=hx
  subst hx
  exact hs i k _ σ _ hk p
 ·have e:i=kvs.length:=by omega
  subst e
  exact .inl ⟨⟨kvs,q,Nat.le_refl _⟩,hd σ H p⟩
theorem ϲg {d:Addr}{o:Obj}{kvs:List (List Key×V)}{g:TG}{tb:TS}{D:Ends}{σ:L2.St}{H:Hp} (Pv:Nat→L2.St→Hp→Prop) (h0:Pv 0 σ H) (hl:∀i σ H,i≤kvs.length→Pv i σ H→H d=some (.frz o (.dT kvs)))
  (hs:∀i k y p b σ H,kvs[i]?=some (k,y)→Pv i σ H→H p=none→H b=some (.tup (k.map kV))→g (.ref p) σ (upd H p (.tup [.ref b,y])) fun σ2 H2=>tb { D with nx:=Pv (i+1),ct:=Pv (i+1),bk:=D.nx } σ2 H2) (hd:∀σ H,Pv kvs.length σ H→D.nx σ H) :
  ∃W:Nat→Nat→L2.St→Hp→Prop,(∃ m,W 0 m σ H)∧∀i m σ H,W i m σ H →
   ((L3.Itt d o).stop i H∧D.nx σ H)∨((L3.Itt d o).go i H∧∃N:L2.St→Hp→Prop,(∀ σ' H',N σ' H'→∃m',m' < m∧W (i+1) m' σ' H')∧∀x H',(L3.Itt d o).yld i H x H'→g x σ H' fun σ2 H2=>tb { D with nx:=N,ct:=N,bk:=D.nx } σ2 H2):=by
 refine⟨fun i m σ H=>m=kvs.length-i∧i≤kvs.length∧Pv i σ H,⟨kvs.length,rfl,Nat.zero_le _,h0⟩,?_⟩
 rintro i m σ H ⟨rfl,hi,p⟩
 have q:=hl i σ H hi p
 by_cases hlt:i < kvs.length
 ·refine .inr ⟨⟨kvs,kvs[i],q,List.getElem?_eq_getElem hlt⟩,Pv (i+1),fun σ' H' p'=>⟨kvs.length-(i+1),by omega,rfl,hlt,p'⟩,fun x H' y=>?_⟩
  obtain⟨p0,b,k,z,hp,rfl,hb,rfl,y⟩:=y
  exact hs i k z p0 b σ H (y kvs q) p hp hb
 ·have e:i=kvs.length:=by omega
  subst e
  exact .inl ⟨⟨kvs,q,Nat.le_refl _⟩,hd σ H p⟩
section
variable {X:Cx}
def ϛy (to:TE):TI:=fun σ H R=>to σ H fun x H1=>∃d o kvs,x=.ref d∧H1 d=some (.frz o (.dT kvs))∧R (L3.Itt d o) H1
theorem ϲo {l:Expr}{to:TE}{apos cpos tp:Pos}{es0:List Expr}{x1:Nat} (ho:PE X l to) (hbase:attributeBase l "items" X.env (eval l X.env)=eval l X.env:=by rfl) (hline:(apos.endLine == cpos.line)=true:=by rfl) :
  PI X (.Tuple es0 x1 tp) (.Call (.Attribute l "items" apos) [] [] cpos) (ϛy to):=by
 intro pins s σ H R I h
 refine wpAny_Call_method0_late hbase hline (thn (ho pins s σ H _ I h) fun v s1 ⟨x,H1,I1,r1,q1⟩=>?_)
 obtain⟨d,o,kvs,e,hd,q⟩:=q1
 subst e
 cases r1
 have I2:=I1
 obtain⟨h0,z,lo,xs,r,o',es,ep,h1,h2,h3,h4,h5⟩:=(show ObjOk X.prog X.w H1 s1.heap d (.frz o (.dT kvs)) from I1.hok d _ hd)
 have eo:o'=o:=by rw[h1] at h0;injection h0
 subst eo
 have rr:RawD d es ep s1.heap:=⟨o',h1,h2,h3⟩
 refine⟨"dict","dict.items",PySem.F.plainAttrs_dict,PySem.F.slot_dict_items,PySem.F.type_dict_items,rr.ty,fun a ea=>?_,?_⟩
 ·cases ea;exact⟨o',h1,h2.2.1⟩
 refine Calls.callWith_builtin rfl (PySem.evalArgs_none ?_)
 refine call_meetsIn PySem.F.slot_dict_items rr.ty PySem.F.entry_dict_items (PySem.F.args_dict_items_1 _) (ϡ8 lo) ⟨⟨es,ep,rr⟩,?_⟩
 have r1:RawD d es ep (s1.heap.push { cls:=.type "dict_items",data:=.fields #[.ref d] }):=rr.at fun o e=>Heap.get?_push_of_some _ e
 refine ϟJ (s:={ s1 with heap:=s1.heap.push { cls:=.type "dict_items",data:=.fields #[.ref d] } }) (v:=s1.heap.objs.size) (d:=d) ⟨_,Heap.get?_push_size _ rfl,rfl,rfl⟩ r1 ?_
 have I3:=I2.kept (t':=s1.toks) (h':=s1.heap.push { cls:=.type "dict_items",data:=.fields #[.ref d] }) fun b u e=>Heap.get?_push_of_some _ e
 refine⟨_,[_],_,_,_,rfl,I3.kept (t':=s1.toks) fun b u e=>Heap.get?_push_of_some _ e,ϵl h3,⟨_,_,Heap.get?_push_size _ rfl⟩,fun b hb=>?_,q⟩
 rw[List.mem_singleton.mp hb]
 exact I3.fpOk (Nat.le_refl _) (I3.hok.fresh (Nat.le_refl _))
def tHold (t:TE):TE:=fun σ H Q=>t σ H fun x H1=>∃d kvs,x=.ref d∧H1 d=some (.dT kvs)∧∀o,Q x (upd H1 d (.frz o (.dT kvs)))
theorem ϟZ {e:Expr}{t:TE} (he:PE X e t):PE X e (tHold t):=by
 intro pins s σ H Q I h
 refine thn (he pins s σ H _ I h) fun v s1 ⟨x,H1,I1,r1,d,kvs,e,hd,q⟩=>?_
 obtain⟨o,h0,I2⟩:=ϝ_ I1 hd
 exact⟨x,_,I2,r1,q o⟩
end
end L3
namespace L3
open PySem PySem.Spec PyProof.Rows L2 PySem.W
section
variable {X:Cx}
end
end L3
namespace L3
open PySem PySem.Spec PyProof.Rows L2 PySem.W
section
variable {prog:Program}{w:World}{A:Around}{E:Value→Shared→Prop}{s:Shared}
end
section
variable {prog:Program}{w:World}{κ:Type} [DecidableEq κ] {knd:KeyKind prog w κ}{A:Around}{E:Value→Shared→Prop}{s:Shared}
end
section
variable {X:Cx}
end
end L3
namespace L3
open PySem PySem.Spec PyProof.Rows L2 PySem.W
section
variable {X:Cx}
end
section
variable {X:Cx}{pins:List (Addr×Obj)}{σ:List (Option V)}{H:Hp}{s:Shared}{a:Addr}
end
end L3
namespace L3
open PySem PySem.Spec PyProof.Rows L2 PySem.W
section
variable {X:Cx}{tg:Expr}
end
section
variable {prog:Program}{w:World}{A:Around}{E:Value→Shared→Prop}{s:Shared}{d:Addr}{es:Array DictEntry}{p:Nat}
end
section
variable {X:Cx}
end
end L3
namespace L3
open PySem PySem.Spec PyProof.Rows L2 PySem.W
section
variable {X:Cx}
end
end L3
namespace L3
open PySem PySem.Spec PyProof.Rows L2
section
variable {X:Cx}
end
end L3
namespace L3
open PySem PySem.Spec PyProof.Rows L2
section
variable {X:Cx}
end
end L3
namespace L3
open PySem PySem.Spec PyProof.Rows L2 PySem.W
section
variable {X:Cx}
theorem ϱZ {ns:List Int}:∀{its:List Value},Vals (ns.map V.int) its→∀(m:Nat) (u:Value),its[m]?=some u→∃k t,u=.int k t∧ns[m]?=some k:=by
 induction ns with
 |nil=>intro its r m u e;cases r;simp at e
 |cons n ns ih=>
  intro its r m u e
  cases r with
  |cons r1 r2=>
   obtain⟨t,rfl⟩:=r1
   cases m with
   |zero=>simp at e;exact⟨n,t,e.symm,rfl⟩
   |succ m=>exact ih r2 m u (by simpa using e)
end
end L3
namespace L3
open PySem PySem.Spec PyProof.Rows L2 PySem.W
section
variable {prog:Program}{w:World}{A:Around}{E:Value→Shared→Prop}{s:Shared}
variable {z TI TO i1 i2:Addr}{f1 f2:List Addr}{xs ys:Array Value}{S1 S2:Nat→Heap→Prop}
end
section
variable {X:Cx}{pins:List (Addr×Obj)}{σ:List (Option V)}{H:Hp}{s:Shared}{h':Heap}
end
section
variable {prog:Program}{w:World}{A:Around}{E:Value→Shared→Prop}{s:Shared}
end
section
variable {X:Cx}
end
end L3
namespace L3
open PySem
def ϕK (s sub:Str) (hi i:Nat) (st:Array Nat×Nat):Array Nat×Nat:=if (decide (st.1.size < 1) && decide (st.2≤i) && decide (i+sub.length≤hi) && Builtin.Str.subAt s sub i)=true then (st.1.push i,i+sub.length) else (st.1,st.2)
theorem ϲD (s sub:Str) (hi:Nat):∀(l:List Nat) (st:Array Nat×Nat),(forIn (m:=Id) l st fun i st=>if (decide (st.1.size < 1) && decide (st.2≤i) && decide (i+sub.length≤hi) && Builtin.Str.subAt s sub i)=true then pure (ForInStep.yield (st.1.push i,i+sub.length)) else pure (ForInStep.yield (st.1,st.2)))=(pure (l.foldl (fun st i=>ϕK s sub hi i st) st):Id _)
 |[],st=>rfl
 |i::l,st=>by
  rw[List.forIn_cons,List.foldl_cons]
  unfold ϕK
  split
  ·exact ϲD s sub hi l _
  ·exact ϲD s sub hi l _
theorem ϝo (s sub:Str) (hi:Nat):Builtin.Str.occurrences s sub 0 hi 1=((List.range' 0 (hi+1)).foldl (fun st i=>ϕK s sub hi i st) (#[],0)).1.toList:=by
 unfold Builtin.Str.occurrences
 simp only[Id.run,Std.Legacy.Range.forIn_eq_forIn_range',Std.Legacy.Range.size]
 have e:(hi+1-0+1-1) / 1=hi+1:=by omega
 rw[e]
 have h:=ϲD s sub hi (List.range' 0 (hi+1)) (#[],0)
 show(Bind.bind (m:=Id) (forIn (m:=Id) (List.range' 0 (hi+1)) (#[],0) _) _)=_
 rw[h]
 rfl
theorem ϡw (s sub:Str) (hi:Nat):∀(l:List Nat) (st:Array Nat×Nat),1≤st.1.size→(l.foldl (fun st i=>ϕK s sub hi i st) st).1=st.1
 |[],_,_=>rfl
 |i::l,st,h=>by
  rw[List.foldl_cons]
  have e:ϕK s sub hi i st=(st.1,st.2):=by
   unfold ϕK
   rw[decide_eq_false (show ¬ st.1.size < 1 by omega)]
   rfl
  rw[e]
  exact ϡw s sub hi l _ h
theorem ϟe (s sub:Str) (hi:Nat):∀l:List Nat,((l.foldl (fun st i=>ϕK s sub hi i st) (#[],0)).1.toList.isEmpty)=!(l.any fun i=>decide (i+sub.length≤hi) && Builtin.Str.subAt s sub i)
 |[]=>rfl
 |i::l=>by
  rw[List.foldl_cons,List.any_cons]
  by_cases c:(decide (i+sub.length≤hi) && Builtin.Str.subAt s sub i)=true
  ·have e:ϕK s sub hi i (#[],0)=(#[].push i,i+sub.length):=by
    unfold ϕK
    have:(decide ((#[]:Array Nat).size < 1) && decide (0≤i) && decide (i+sub.length≤hi) && Builtin.Str.subAt s sub i)=true:=by simpa using c
    rw[if_pos this]
   rw[e,ϡw _ _ _ _ _ (by simp),c]
   rfl
  ·have e:ϕK s sub hi i (#[],0)=(#[],0):=by
    unfold ϕK
    have:¬ (decide ((#[]:Array Nat).size < 1) && decide (0≤i) && decide (i+sub.length≤hi) && Builtin.Str.subAt s sub i)=true:=by simpa using c
    rw[if_neg this]
   rw[e,ϟe s sub hi l]
   have:(decide (i+sub.length≤hi) && Builtin.Str.subAt s sub i)=false:=by simpa using c
   rw[this,Bool.false_or]
theorem in_one (c:Nat) (g:Str):(!(Builtin.Str.occurrences g ⟨#[c]⟩ 0 g.length 1).isEmpty)=decide (c∈cl g):=by
 rw[ϝo,ϟe,Bool.not_not,Bool.eq_iff_iff,List.any_eq_true,decide_eq_true_eq]
 have key:∀i,i+1≤g.length→(Builtin.Str.subAt g ⟨#[c]⟩ i=true↔(cl g)[i]?=some c):=fun i hi=>by
  unfold Builtin.Str.subAt
  show((g.cps.extract i (i+1) == #[c])=true)↔_
  rw[beq_iff_eq]
  have hs:i < g.cps.size:=hi
  have e:g.cps.extract i (i+1)=#[g.cps[i]]:=by
   apply Array.ext
   ·simp;omega
   ·intro j h1 h2
    simp at h2
    subst h2
    simp
  rw[e]
  show _↔g.cps.toList[i]?=some c
  rw[Array.getElem?_toList,Array.getElem?_eq_getElem hs]
  simp
 constructor
 ·rintro⟨i,_,h⟩
  rw[Bool.and_eq_true,decide_eq_true_eq] at h
  exact List.mem_of_getElem? ((key i h.1).mp h.2)
 ·intro h
  obtain⟨i,hi,e⟩:=List.getElem_of_mem h
  have hi':i+1≤g.length:=by rw[ϖR] at hi;omega
  refine⟨i,List.mem_range'_1.mpr ⟨Nat.zero_le _,by omega⟩,?_⟩
  rw[Bool.and_eq_true,decide_eq_true_eq]
  exact⟨hi',(key i hi').mpr (by rw[← e];exact List.getElem?_eq_getElem hi)⟩
end L3
namespace L3
open PySem PySem.Spec PyProof.Rows L2
theorem ϵ4 {xs:List V}{us:List Value} (r:Vals xs us):∀is:List Nat,Vals (is.filterMap (xs[·]?)) (is.filterMap (us[·]?))
 |[]=>.nil
 |i::is=>by
  have ih:=ϵ4 r is
  cases h:xs[i]? with
  |some x=>
   obtain⟨u,hu,ru⟩:=r.get h
   rw[List.filterMap_cons_some (b:=x) (by exact h),List.filterMap_cons_some (b:=u) (by exact hu)]
   exact .cons ru ih
  |none=>
   have hn:us[i]?=none:=by
    rw[List.getElem?_eq_none_iff] at h⊢
    rw[← r.length];exact h
   rw[List.filterMap_cons_none (by exact h),List.filterMap_cons_none (by exact hn)]
   exact ih
section
variable {X:Cx}{e st:Expr}{lo hi:Option Expr}{te ts:TE}{tl th:TO}{pos p2:Pos}
def tSl3 (K:PySem.W.Frag) (te:TE) (tl th:TO) (ts:TE):TE:=fun σ H Q=>te σ H fun x H1=>tl σ H1 fun _ H2=>th σ H2 fun _ H3=>ts σ H3 fun y H4=>∃a xs k,x=.ref a∧y=.int k∧k≠0∧SqL K H4 a xs∧∀p ys,H4 p=none→(∀ v∈ys,v∈xs)→ys.length≤xs.length→Q (.ref p) (upd H4 p (.lst ys))
theorem pe_sl3 (he:PE X e te) (hl:PO X lo tl) (hu:PO X hi th) (hs:PE X st ts):PE X (.Subscript e (.Slice lo hi (some st) p2) pos) (tSl3 X.K te tl th ts):=by
 intro pins s σ H Q I h
 refine Subscript_ (thn (he pins s σ H _ I h) fun v s1 ⟨x,H1,I1,r1,q1⟩=>?_)
 refine wpAny_Slice (thn (hl pins s1 σ H1 _ I1 q1) fun vl s2 ⟨l,H2,I2,pl,q2⟩=>thn (hu pins s2 σ H2 _ I2 q2) fun vu s3 ⟨u,H3,I3,pu,q3⟩=>?_)
 rw[evalPart_some]
 refine thn (hs pins s3 σ H3 _ I3 q3) fun vs s4 ⟨y,H4,I4,r4,a,xs,k,hx,hy,hk,hq,q⟩=>?_
 subst hx hy
 cases r1
 obtain⟨t,rfl⟩:=r4
 have I5:Inv X pins σ H4 { s4 with heap:=s4.heap.push { cls:=.type "slice",data:=.fields #[vl,vu,.int k t] } }:=I4.kept (t':=s4.toks) fun b ob q=>Heap.get?_push_of_some _ q
 obtain⟨its,r,ht,hz⟩:=I5.list hq
 have hlen:=r.length
 have hg:wpAny (model X.prog X.w) X.A (getItem (.ref a) (.ref s4.heap.objs.size)) (EP X pins σ Q) X.xe { s4 with heap:=s4.heap.push { cls:=.type "slice",data:=.fields #[vl,vu,.int k t] } }:=by
  refine wpAny_getItem_list_slice ht.isList (Heap.IsSliceOf.new ..) pl pu (.int k t) (fun z=>hk (by injection z)) ?_ (by rw[List.size_toArray]<;>omega)
  have hp:=slicePick_size_le its.toArray l u (some k)
  unfold slicePick at hp⊢
  generalize sliceRange (sliceBounds l u (some k) its.toArray.size).1 (sliceBounds l u (some k) its.toArray.size).2.1 (sliceBounds l u (some k) its.toArray.size).2.2=is at hp⊢
  have e1:is.filterMap (its.toArray[·]?)=is.filterMap (its[·]?):=by simp
  rw[e1] at hp⊢
  have rp:=ϵ4 r is
  rw[List.size_toArray,List.size_toArray] at hp
  have hl2:=rp.length
  refine⟨.ref _,_,I5.laid (t':=s4.toks) (o:=.lst (is.filterMap (xs[·]?))) (fun b ob q=>Heap.get?_push_of_some _ q) (Nat.le_refl _) ?_,rfl,q _ _ (I5.hok.fresh (Nat.le_refl _)) (fun v hv=>?_) (by omega)⟩
  ·exact⟨by omega,_,0,rp,Heap.get?_push_size _ rfl⟩
  ·obtain⟨i,_,hi⟩:=List.mem_filterMap.mp hv
   exact List.mem_of_getElem? hi
 show wpAny (model X.prog X.w) X.A (subscriptTail e (.Slice lo hi (some st) p2) (.ref a) (.ref s4.heap.objs.size)) (EP X pins σ Q) X.xe { s4 with heap:=s4.heap.push { cls:=.type "slice",data:=.fields #[vl,vu,.int k t] } }
 exact tail_any (ops:=[.ref a,.ref s4.heap.objs.size]) ht.isList.typeIs slot_list_getitem.lookup hg (by with_unfolding_all rfl)
theorem ϡH {ns:List Int}{us:List Value} (r:Vals (ns.map V.int) us):∀u∈us,∃n t,u=.int n t:=fun u hu=>by
 obtain⟨i,hi,rfl⟩:=List.getElem_of_mem hu
 have hi2:i < (ns.map V.int).length:=by rw[r.length];exact hi
 obtain⟨u,h1,h2⟩:=r.get (List.getElem?_eq_getElem hi2)
 rw[List.getElem?_eq_getElem hi] at h1
 injection h1 with h1
 rw[h1]
 rw[List.getElem_map] at h2
 obtain⟨t,rfl⟩:=h2
 exact⟨_,t,rfl⟩
theorem ϟs (hc:X.calm=true):ϱi X (.builtin "sum") (fun xs H Q=>∃(p:Addr) (ns:List Int),xs=[.ref p]∧SqL X.K H p (ns.map V.int)∧∀n:Int,Q (.int n) H):=by
 intro pins s σ H zs us Q I r h
 obtain⟨p,ns,rfl,hq,q⟩:=h
 obtain⟨u,rfl,rx⟩:=ϲU r
 cases rx
 obtain⟨its,rv,pl,hz⟩:=I.list hq
 have hall:AllInts its.toArray:=fun v hv=>by
  obtain⟨n,t,e⟩:=ϡH rv v (by simpa using hv)
  exact⟨n,t,e⟩
 obtain⟨xs,e⟩:=hall.items
 have hl:=pl.isList
 rw[e] at hl
 refine sum_intListG (I.ok.hd hc) hl fun h' tk t' hk=>?_
 exact⟨.int _,H,I.kept (t':=tk) hk,⟨_,rfl⟩,q _⟩
end
end L3
namespace L3
open PySem PySem.Spec PyProof.Rows L2
section
variable {X:Cx}
def ϝd (K:PySem.W.Frag):R2:=fun x y H Q=>∃l b xs zs,x=.ref l∧y=.ref b∧SqL K H l xs∧SqL K H b zs∧xs.length+zs.length≤sizeLine∧∀p,H p=none→Q (.ref p) (upd H p (.lst (xs++zs)))
theorem ϲM:OpR X (binaryOp .Add) (ϝd X.K):=by
 intro pins s σ H x y v u Q I rx ry h
 obtain⟨l,b,xs,zs,rfl,rfl,hH,hB,hz,q⟩:=h
 cases rx
 cases ry
 obtain⟨its,r,⟨⟨cls,dd,data,sl⟩,n,ho,hc,_,hd⟩,e⟩:=I.list hH
 obtain⟨its2,r2,⟨⟨cls2,dd2,data2,sl2⟩,n2,ho2,hc2,_,hd2⟩,e2⟩:=I.list hB
 simp only at hc hd hc2 hd2
 subst hc hd hc2 hd2
 have l1:=r.length
 have l2:=r2.length
 refine concat_meets ⟨_,ho,rfl⟩ ⟨_,ho2,rfl⟩ noFill_list_add seq_list_add PySem.F.slot_list_add PySem.F.entry_list_add (PySem.F.args_list_add_2 _ _) (list_addW l b its.toArray its2.toArray n n2 dd dd2 sl sl2 (by rw[List.size_toArray,List.size_toArray];omega)) ⟨ho,ho2,?_⟩
 have ea:its.toArray++its2.toArray=(its++its2).toArray:=by simp
 rw[ea]
 exact⟨.ref _,_,I.lnew (t':=s.toks) (r.append r2) (by rw[List.length_append];omega),rfl,q _ I.fresh⟩
def rIdxG:V→List V→Hp→VK→Prop:=fun x vs H Q=>∃(g:Str) (c:Nat),x=.str g∧vs=[.str ⟨#[c]⟩]∧c∈cl g∧∀n:Nat,Q (.int (n:Int)) H
theorem ϛC:MtR X "str.index" rIdxG:=by
 intro pins s σ H x vs v us Q I rx rv h
 obtain⟨g,c,rfl,rfl,hc,q⟩:=h
 obtain⟨t,rfl⟩:=rx
 obtain⟨u,rfl,ru⟩:=ϲU rv
 obtain⟨t2,rfl⟩:=ru
 have hi:=in_one c g
 rw[decide_eq_true hc] at hi
 cases ho:Builtin.Str.occurrences g ⟨#[c]⟩ 0 g.length 1 with
 |nil=>rw[ho] at hi;cases hi
 |cons i rest=>
  exact call_meets PySem.F.slot_str_index (typeIs_str _ _ _) PySem.F.entry_str_index (PySem.F.args_str_index_2 _ _) (gives_str_index g ⟨#[c]⟩ t t2 i rest ho).meets (show(Made.int _).post _ s from ⟨.int _,H,I.tok _,⟨_,rfl⟩,q _⟩)
theorem bt_sum:bootBuiltins "sum"=some (.builtin "sum"):=by decide +kernel
def rSumI (K:PySem.W.Frag):List V→Hp→VK→Prop:=fun xs H Q=>∃(p:Addr) (ns:List Int),xs=[.ref p]∧SqL K H p (ns.map V.int)∧∀n:Int,Q (.int n) H
theorem ϟV (hc:X.calm=true):ϱi X (.builtin "sum") (rSumI X.K):=ϟs hc
end
end L3
namespace L3
open PySem PySem.Spec PyProof.Rows L2
end L3
namespace L3
open PySem PySem.Spec PyProof.Rows L2 PySem.W
section
variable {prog:Program}{w:World}{A:Around}{E:Value→Shared→Prop}{s:Shared}{it l:Addr}{items:Array Value}
theorem ϝn:typeLookup (.type "list_reverseiterator") "__len__"=pure none:=by rw[typeLookup_type,builtinLookup_eq_fast];kernel_rfl
theorem rv_hint:typeLookup (.type "list_reverseiterator") "__length_hint__"=pure (some (.builtin "list_reverseiterator.__length_hint__")):=by rw[typeLookup_type,builtinLookup_eq_fast];kernel_rfl
abbrev RvAt (it l:Addr) (items:Array Value) (i:Nat) (h:Heap):Prop:=i≤items.size∧h.IsRevIter it l ((items.size:Int)-1-(i:Int))∧h.IsList l items
abbrev RvP (items:Array Value):Nat→Value→Prop:=fun i v=>items[items.size-1-i]?=some v
theorem ϡ7 {R:Result→Shared→Prop} (hh:A.handled=none) (hne:l≠it) (st:RvAt it l items 0 s.heap) (S:Addr) (hSi:S≠it) (hSl:S≠l) (c₀:Nat) (hS:s.heap.get? S=some { cls:=.type "list",data:=.seq #[] c₀ })
  (hR:∀h' tk acc' c',(∀ b o,b≠S→b≠it→s.heap.get? b=some o→h'.get? b=some o)→h'.get? S=some { cls:=.type "list",dict:=none,data:=.seq acc' c',slots:=#[] }→ItemsOf (RvP items) acc' items.size→R (.ok (.ret .none)) { s with heap:=h',toks:=tk }) (hn:items.size≤sizeLine) :
  wpAny (model prog w) A.in1 (Builtin.List.listExtendWith (.ref S) (.ref it) .none)
   (fun fin s'=>match fin with|.done f=>R (.ok f) s'|.again c'=>c'.quiet=true∧codeAny (model prog w) A c' R s') (fun e s'=>R (.error e) s') s:=by
 have hSf:S∉[it,l]:=by simp only[List.mem_cons,List.not_mem_nil,or_false,not_or];exact⟨hSi,hSl⟩
 have W:=Walks.listRev (prog:=prog) (w:=w) (A:=A.in1) hh it l hne items
 have ty:=st.2.1.typeIs (s:=s)
 unfold Builtin.List.listExtendWith
 refine wpAny_bind (wpAny_typeOf (T:="list_reverseiterator") ty ?_)
 have h1:Builtin.List.listSameRef (.ref S) (.ref it)=false:=by simp[Builtin.List.listSameRef,hSi]
 rw[if_neg (by rw[h1];decide)]
 refine wpAny_bind (wpAny_pyIter_revIter st.2.1 ?_)
 refine wpAny_bind (wpAny_holding ?_)
 unfold Builtin.List.listLengthHint
 refine wpAny_bind (wpAny_specialOf ty ϝn ?_)
 show wpAny _ A.in1 (specialOf (Value.ref it) (Str.ofString "__length_hint__") >>= _) _ _ _
 refine wpAny_bind (wpAny_specialOf ty rv_hint ?_)
 (generalize hid:("list_reverseiterator.__length_hint__":String)=id0;(fail_if_success (clear hid id0));wp_delta;rw[show splitId id0=some ("list_reverseiterator","__length_hint__") from by subst hid;decide +kernel];subst hid)
 refine wpAny_bind (wpAny_isInstance (b:=true) ty (by rw[isSubtype_type];kernel_rfl) ?_)
 refine wpAny_pure ?_
 rw[if_neg (by decide)]
 refine wpAny_pure ⟨plainId_quiet PySem.F.plain_extend_loop _,codeAny_extend_loopS W.toS hn S hSf _ items.size 0 _ #[] c₀ rfl (Nat.zero_le _) st hS (ItemsOf.nil _) fun s' acc' c' hm hS' hacc=>?_⟩
 rw[Moved.eq_with hm]
 refine hR s'.heap s'.toks acc' c' (fun b o hb hi e=>hm.heap b o (fun hmem=>?_) e) hS' hacc
 rcases List.mem_cons.mp hmem with e'|hmem
 ·exact hb e'
 ·exact hi (List.mem_singleton.mp hmem)
theorem ϛi {R:Result→Shared→Prop} (hh:A.handled=none) (hne:l≠it) (st:RvAt it l items 0 s.heap) (S:Addr) (hSi:S≠it) (hSl:S≠l) (hS:s.heap.get? S=some { cls:=.type "list",data:=.seq #[] })
  (hR:∀h' tk acc' c',(∀ b o,b≠S→b≠it→s.heap.get? b=some o→h'.get? b=some o)→h'.get? S=some { cls:=.type "list",dict:=none,data:=.seq acc' c',slots:=#[] }→ItemsOf (RvP items) acc' items.size→R (.ok (.ret .none)) { s with heap:=h',toks:=tk }) (hn:items.size≤sizeLine) :
  wpAny (model prog w) A.in1 (Builtin.«list.__init__» ⟨[.ref S,.ref it],[]⟩)
   (fun fin s'=>match fin with|.done f=>R (.ok f) s'|.again c'=>c'.quiet=true∧codeAny (model prog w) A c' R s') (fun e s'=>R (.error e) s') s:=by
 show wpAny _ _ (do let old ← Builtin.List.listItems (.ref S);Builtin.List.listUpdate (.ref S) (fun _=>#[]);letGo old.toList.reverse;Builtin.List.listExtendWith (.ref S) (.ref it) .none) _ _ s
 refine wpAny_bind ?_
 unfold Builtin.List.listItems
 refine wpAny_bind (wpAny_seqItems hS rfl (wpAny_pure ?_))
 show wpAny _ _ (updateSeq S (fun _=>#[]) >>= fun _=>letGo (#[]:Array Value).toList.reverse >>= fun _=>Builtin.List.listExtendWith (.ref S) (.ref it) .none) _ _ s
 refine wpAny_bind (wpAny_updateSeq hS rfl ?_)
 have hS₂:=Heap.get?_update_self (Obj.mapSeq (fun _=>(#[]:Array Value))) hS rfl
 have oth:∀b o,b≠S→s.heap.get? b=some o→(s.heap.update S (Obj.mapSeq (fun _=>(#[]:Array Value)))).get? b=some o:=
  fun b o hb e=>(Heap.get?_update_other _ _ (Ne.symm hb)).trans e
 refine wpAny_bind (wpAny_letGo ?_)
 refine ϡ7 hh hne ⟨st.1,st.2.1.at fun o e=>oth it o hSi.symm e,st.2.2.at fun o e=>oth l o hSl.symm e⟩ S hSi hSl _ hS₂ (fun h' tk acc' c' hk hS' hacc=>?_) hn
 exact hR h' tk acc' c' (fun b o hb hi e=>hk b o hb hi (oth b o hb e)) hS' hacc
theorem ϛH {Q:Value→Shared→Prop} (hh:A.handled=none) (hne:l≠it) (st:RvAt it l items 0 s.heap) (hn:items.size≤sizeLine)
  (hQ:∀h' tk acc' c',(∀ b o,b≠it→s.heap.get? b=some o→h'.get? b=some o)→h'.get? s.heap.objs.size=some { cls:=.type "list",dict:=none,data:=.seq acc' c',slots:=#[] }→ItemsOf (RvP items) acc' items.size→Q (.ref s.heap.objs.size) { s with heap:=h',toks:=tk }) :
  wpAny (model prog w) A (call (.type "list") [.ref it]) Q E s:=by
 refine callType_codes (Q₁:=fun obj s₁=>obj=.ref s.heap.objs.size∧s₁={ s with heap:=s.heap.push { cls:=.type "list",data:=.seq #[] } }) PySem.F.called_list (PySem.F.typeCall_list_1 _) PySem.F.entry_list_init
  (code_list_new _ ⟨rfl,rfl⟩) fun obj s₁ h₁=>?_
 obtain⟨rfl,rfl⟩:=h₁
 have hS:(s.heap.push { cls:=.type "list",data:=.seq #[] }).get? s.heap.objs.size=some { cls:=.type "list",data:=.seq #[] }:=Heap.get?_push_size _ rfl
 obtain⟨oi,ei,_⟩:=id st.2.1
 obtain⟨ol,el,_⟩:=id st.2.2
 refine⟨⟨_,hS,rfl⟩,PySem.F.args_list_init_2 _ _,ϛi (A:=A.in1) hh hne ⟨st.1,st.2.1.at fun o e=>Heap.get?_push_of_some _ e,st.2.2.at fun o e=>Heap.get?_push_of_some _ e⟩ _ (Nat.ne_of_gt (Heap.lt_size ei)) (Nat.ne_of_gt (Heap.lt_size el)) hS (fun h' tk acc' c' hk hS' hacc=>?_) hn⟩
 exact⟨rfl,hQ h' tk acc' c' (fun b o hb e=>hk b o (Nat.ne_of_lt (Heap.lt_size e)) hb (Heap.get?_push_of_some _ e)) hS' hacc⟩
end
section
variable {X:Cx}
theorem ϲQ:bootBuiltins "reversed"=some (.type "reversed"):=by decide +kernel
theorem ϝa:bootBuiltins "list"=some (.type "list"):=by decide +kernel
def tLR (te:TE):TE:=fun σ H Q=>te σ H fun v H1=>∃l ys,v=.ref l∧H1 l=some (.lst ys)∧∀p,H1 p=none→Q (.ref p) (upd H1 p (.lst ys.reverse))
theorem ϡP {e:Expr}{te:TE}{p p2 pos pos2:Pos} (hc:X.calm=true) (hg:Gl X "list") (hm:X.mg "list"=none) (hg2:Gl X "reversed") (hm2:X.mg "reversed"=none) (hx:PE X e te)
  (hs:starEach [.Call (.Name "reversed" p2) [e] [] pos2] X.env=[(false,eval (.Call (.Name "reversed" p2) [e] [] pos2) X.env)]:=by rfl) (hs2:starEach [e] X.env=[(false,eval e X.env)]:=by rfl) :
  PE X (.Call (.Name "list" p) [.Call (.Name "reversed" p2) [e] [] pos2] [] pos) (tLR te):=by
 intro pins s σ H Q I h
 refine Call_ (ϱK I hg hm ϝa (PyProof.Rows.callWith_type1 ?_ hs rfl))
 rw[hs]
 show wpAny _ _ (spliced [(false,eval (.Call (.Name "reversed" p2) [e] [] pos2) X.env)]) _ _ s
 refine Calls.spliced_cons ?_
 let Q':List V→Hp→Prop:=fun vs H1=>match vs with
  |[v]=>∃l ys,v=.ref l∧H1 l=some (.lst ys)∧∀p,H1 p=none→Q (.ref p) (upd H1 p (.lst ys.reverse))
  |_=>False
 refine Call_ (ϱK I hg2 hm2 ϲQ (PyProof.Rows.callWith_type1 (thn (ϖa hx ϖh hs2 pos2 pins s σ H Q' I h) fun us s1 ⟨vs,H1,I1,r1,q1⟩=>?_) hs2 rfl))
 cases r1 with
 |nil=>exact absurd q1 id
 |cons r rr=>
  cases rr with
  |cons _ _=>exact absurd q1 id
  |nil=>
   obtain⟨l,ys,rfl,hl,q⟩:=q1
   cases r
   obtain⟨its,rv,pL,hz⟩:=I1.list (SqL.of hl)
   have hlen:=rv.length
   have ll:l < s1.heap.objs.size:=by obtain⟨o,e,_⟩:=pL.isList;exact Heap.lt_size e
   refine call_reversed_list pL.isList ?_
   refine Calls.spliced_nil ?_
   have hit:(s1.heap.push (revObj l ((its.toArray.size:Int)-1))).IsRevIter s1.heap.objs.size l ((its.toArray.size:Int)-1-((0:Nat):Int)):=by
    have e0:(its.toArray.size:Int)-1-((0:Nat):Int)=(its.toArray.size:Int)-1:=by omega
    rw[e0];exact⟨_,Heap.get?_push_size _ rfl,rfl,rfl⟩
   refine ϛH (items:=its.toArray) (l:=l) (I1.ok.hd hc) (Nat.ne_of_lt ll) ⟨Nat.zero_le _,hit,pL.isList.at fun o e=>Heap.get?_push_of_some _ e⟩ (by simp;omega) fun h' tk acc c kp e' itm=>?_
   have hsz:(s1.heap.push (revObj l ((its.toArray.size:Int)-1))).objs.size=s1.heap.objs.size+1:=Heap.size_push ..
   refine⟨.ref _,_,I1.laid (t':=tk) (o:=.lst ys.reverse) (fun b u z=>kp b u (Nat.ne_of_lt (Heap.lt_size z)) (Heap.get?_push_of_some _ z)) (by rw[hsz];omega) ⟨by rw[List.length_reverse];exact hz,acc.toList,c,ϟp (by rw[Array.length_toList,itm.1,List.length_reverse,hlen];simp) fun i u y e1 e2=>?_,by rw[Array.toArray_toList];exact e'⟩,rfl,q _ (I1.hok.fresh (by rw[hsz];omega))⟩
   have hu:=itm.2 i u (by rw[← Array.getElem?_toList];exact e1)
   have hi:i < ys.length:=by
    have:=(List.getElem?_eq_some_iff.mp e2).1
    rwa [List.length_reverse] at this
   rw[List.getElem?_reverse hi] at e2
   obtain⟨u',hu',ru⟩:=rv.get e2
   have hsize:its.toArray.size=ys.length:=by simp[hlen]
   replace hu:its.toArray[its.toArray.size-1-i]?=some u:=hu
   rw[hsize] at hu
   have hu2:its[ys.length-1-i]?=some u:=by simpa using hu
   rw[hu2] at hu'
   injection hu' with hu'
   rw[hu'];exact ru
end
end L3
namespace L3
open PySem PySem.Spec PyProof.Rows L2
def rvS (x:Str):Str:=⟨(cl x).reverse.toArray⟩
theorem ϱD (x:Str):cl (rvS x)=(cl x).reverse:=rfl
theorem ϵT (x:Str):rvS (rvS x)=x:=ϕq (by rw[ϱD,ϱD,List.reverse_reverse])
theorem ϰ8 (x:Str):(rvS x).length=x.length:=by rw[← ϖR,ϱD,List.length_reverse,ϖR]
theorem ϡC (x:Str) (t:Tok):Txt.sliceBy x none none (-1,t)=rvS x:=by
 refine ϕq ?_
 rw[ϱD]
 show(Txt.sliceBy x none none (-1,t)).cps.toList=x.cps.toList.reverse
 rw[step_rev_list]
 refine List.ext_getElem (by simp[Str.length]) fun k h1 h2=>?_
 have h3:k < x.cps.size:=by simpa using h2
 have h4:x.length=x.cps.size:=rfl
 rw[List.getElem_map,List.getElem_range,List.getElem_reverse,h4]
 have h5:x.cps.size-1-k < x.cps.size:=by omega
 simp[Array.getD,h5]
section
variable {X:Cx}{e st:Expr}{te ts:TE}{pos p2:Pos}
def tRevS (te ts:TE):TE:=fun σ H Q=>te σ H fun x H1=>ts σ H1 fun y H2=>y=.int (-1)∧∃z,x=.str z∧z.length≤sizeLine∧Q (.str (rvS z)) H2
theorem ϟI (he:PE X e te) (hst:PE X st ts):PE X (.Subscript e (.Slice none none (some st) p2) pos) (tRevS te ts):=by
 intro pins s σ H Q I h
 refine Subscript_ (thn (he pins s σ H _ I h) fun v s1 ⟨x,H1,I1,r1,q1⟩=>?_)
 refine wpAny_Slice ?_
 rw[evalPart_none]
 refine wpAny_pure ?_
 refine wpAny_pure ?_
 rw[evalPart_some]
 refine thn (hst pins s1 σ H1 _ I1 q1) fun vs s2 ⟨y,H2,I2,r2,hy,z,hx,hz,q⟩=>?_
 subst hy hx
 obtain⟨t,rfl⟩:=r2
 obtain⟨tz,rfl⟩:=r1
 have I4:Inv X pins σ H2 { s2 with heap:=s2.heap.push { cls:=.type "slice",data:=.fields #[.none,.none,.int (-1) t] } }:=I2.kept (t':=s2.toks) fun b ob q=>Heap.get?_push_of_some _ q
 have hg:wpAny (model X.prog X.w) X.A (getItem (.str z tz) (.ref s2.heap.objs.size)) (EP X pins σ Q) X.xe { s2 with heap:=s2.heap.push { cls:=.type "slice",data:=.fields #[.none,.none,.int (-1) t] } }:=by
  refine wpAny_getItem_str_slice (l:=none) (u:=none) (st:=some (-1,t)) ⟨_,Heap.get?_push_size _ rfl,rfl,rfl⟩ rfl ?_
  refine post_val_or_str ⟨Nat.le_trans (Txt.sliceBy_le z none none (-1,t) (show(-1:Int)≠0 by decide)) hz,fun t' k=>?_⟩
  have e1:=ϡC z t
  unfold Txt.sliceBy at e1
  rw[e1]
  exact⟨.str (rvS z),H2,I4.tok _,⟨_,rfl⟩,q⟩
 show wpAny (model X.prog X.w) X.A (subscriptTail e (.Slice none none (some st) p2) (.str z tz) (.ref s2.heap.objs.size)) (EP X pins σ Q) X.xe { s2 with heap:=s2.heap.push { cls:=.type "slice",data:=.fields #[.none,.none,.int (-1) t] } }
 exact tail_any (ops:=[.str z tz,.ref s2.heap.objs.size]) (typeIs_str _ _ _) PySem.F.slot_str_getitem.lookup hg (by with_unfolding_all rfl)
end
end L3
namespace L3
open PySem PySem.Spec PyProof.Rows L2
theorem kPI {X:Cx}{K:PySem.W.Frag}{tg it:Expr} (f:PySem.W.Frag→TI) (h:PI X tg it (f X.K)) (e:X.K=K:=by rfl):PI X tg it (f K):=e▸h
theorem kPE {X:Cx}{K:PySem.W.Frag}{ex:Expr} (f:PySem.W.Frag→TE) (h:PE X ex (f X.K)) (e:X.K=K:=by rfl):PE X ex (f K):=e▸h
theorem kPG {X:Cx}{K:PySem.W.Frag}{tg:Expr} (f:PySem.W.Frag→TG) (h:PG X tg (f X.K)) (e:X.K=K:=by rfl):PG X tg (f K):=e▸h
theorem ϝz {X:Cx}{K:PySem.W.Frag}{f:Value} (r:PySem.W.Frag→List V→Hp→VK→Prop) (h:ϱi X f (r X.K)) (e:X.K=K:=by rfl):ϱi X f (r K):=e▸h
def rLo (K:PySem.W.Frag):List V→Hp→VK→Prop:=fun xs H Q=>∃p ys,xs=[.ref p]∧(SqL K H p ys∨SqT K H p ys)∧∀l,H l=none→Q (.ref l) (upd H l (.lst ys))
end L3
namespace My
open PySem PySem.Spec PyProof.Rows L2 L3 PySem.Challenge
open PySem.W (nsIn codeIn keepIn fnOf mg_of mg_none_of findIn mroIn kitOne Frag)
def top (i:Nat):Stmt:=pw_earlyscribe_k87_whole_two_ways_from_the.main.body.getD i (.Pass ⟨0,0,0,0⟩)
end My
lay_quick PySem.Challenge.pw_earlyscribe_k87_whole_two_ways_from_the
namespace My
open PySem PySem.W PyProof.Rows L2 L3 PySem.Challenge
abbrev fob (x:Str) (st:Stmt) (oc:Value) (od:Option Addr) (kV dc pm:Value) (an:Option Addr) (cd ct:Value) (sl:Array (Option Value)):Obj:=⟨oc,od,.func (fnOf x x (ϖB st) (ϖy st) (ϖj st) .none kV dc pm an cd ct),sl⟩
abbrev de (P:Params) (x:Str) (t:Tok) (v:Value):DictEntry:=⟨PySem.PyData.keyHash P x,.str x t,v⟩
abbrev cob (x:Str) (a b c:Tok) (l n:Int) (r r2 v1 v2 v3 v4:Value) (n6:Int) (c2:Tok):Obj:=⟨.type "code",none,.fields #[.str x a,.str x b,.str "/claim/cut.py" c,.int l 0,.int n 0,.int 0 0,.int 0 0,.int 3 0,r,.bool true,.int 181 0,r2,v1,v2,v3,v4,.int n6 0,.int l 0,.str "/claim/cut.py" c2],#[]⟩
noncomputable def ko2 (P:Params):Obj:=⟨.none,none,(.dict #[] 0),#[]⟩
noncomputable def ko3 (P:Params):Obj:=⟨(.type "dict"),none,(.dict #[de P "__name__" 165 (.str "law_earlyscribe_k87_whole_two_ways_from_the" 580),de P "__doc__" 166 .none,de P "__package__" 167 .none,de P "__loader__" 168 (.builtin "__main__.__loader__#opaque"),de P "__spec__" 169 .none,de P "__annotations__" 170 (.ref 6),de P "__builtins__" 171 (.ref 4),de P "__file__" 173 (.str "/claim/cut.py" 172),de P "__cached__" 174 .none,de P "ScribeError" 206 (.ref 24),de P "OtherSigns" 222 (.ref 37),de P "TooMany" 238 (.ref 49),de P "SIGNS" 242 (.int 0 241),de P "ROOMS" 244 (.int 1 243),de P "BEGINS" 246 (.int 2 245),de P "STEPS" 248 (.int 3 247),de P "ENDS" 250 (.int 4 249),de P "MOST_ROOMS" 252 (.int 200 251),de P "refuse_other_signs" 260 (.ref 58),de P "refuse_many_pairs" 268 (.ref 65),de P "OUT_OF" 272 (.int 0 271),de P "INTO" 274 (.int 3 273),de P "places_at" 285 (.ref 72),de P "traces_from" 303 (.ref 79),de P "traces_from_begins" 310 (.ref 86),de P "traces_to_ends" 317 (.ref 93),de P "trail_of" 329 (.ref 100),de P "MOST_ROOMS_WITH_CHOICES" 333 (.int 8 332),de P "PLACES" 335 (.int 1 334),de P "WORDS" 337 (.int 2 336),de P "refuse_many_rooms" 344 (.ref 107),de P "two_of_each" 355 (.ref 114),de P "doubled_marks" 361 (.ref 119),de P "places_by_sign" 367 (.ref 124),de P "doubled_steps" 382 (.ref 131),de P "doubled_of" 392 (.ref 138),de P "behind_one_another" 400 (.ref 145),de P "words_ahead" 412 (.ref 152),de P "words_behind" 424 (.ref 159),de P "are_apart" 432 (.ref 166),de P "way_apart_by_begin" 444 (.ref 173),de P "trail_from_begin" 453 (.ref 180),de P "way_apart_by_step" 469 (.ref 187),de P "way_apart_by_end" 481 (.ref 194),de P "way_apart" 491 (.ref 201),de P "single_way" 497 (.ref 206),de P "two_ways" 506 (.ref 213),de P "each_once" 517 (.ref 220),de P "turned" 526 (.ref 227),de P "mirrored" 532 (.ref 232),de P "either_of" 538 (.ref 237),de P "kept_marks" 544 (.ref 242),de P "moves_by_sign" 550 (.ref 247),de P "kept_steps" 567 (.ref 254),de P "kept_to" 579 (.ref 261),de P "_law_cell_at" 589 (.ref 268),de P "_law_mixed" 598 (.ref 275),de P "_law_word" 609 (.ref 282),de P "_law_signs" 615 (.ref 287),de P "_law_rest" 626 (.ref 294),de P "_law_plain" 632 (.ref 299),de P "_law_choices" 650 (.ref 306),de P "_law_twofold" 676 (.ref 313),de P "_law_spoilt" 691 (.ref 320),de P "_law_drawn" 700 (.ref 327),de P "_law_filter" 716 (.ref 334),de P "law" 722 (.ref 339)] 67),#[]⟩
noncomputable def ko23 (P:Params):Obj:=⟨(.type "dict"),none,(.dict #[de P "__module__" 196 (.str "earlyscribe.errors" 187),de P "__firstlineno__" 200 (.int 2 199),de P "__static_attributes__" 201 (.ref 22),de P "__weakref__" 203 (.ref 25),de P "__doc__" 204 .none] 3),#[]⟩
noncomputable def ko24 (P:Params):Obj:=⟨(.type "type"),none,(.cls ⟨"ScribeError",[(.type "ValueError")],[(.ref 24),(.type "ValueError"),(.type "Exception"),(.type "BaseException"),(.type "object")],23,"ScribeError",true,[],[(.ref 37),(.ref 49)],false,none,false⟩),#[(some (.ref 15)),none,(some (.str "ScribeError" 189)),(some (.str "ScribeError" 197)),(some (.builtin "ValueError.__new__")),(some (.bool true))]⟩
noncomputable def ko36 (P:Params):Obj:=⟨(.type "dict"),none,(.dict #[de P "__module__" 214 (.str "earlyscribe.errors" 187),de P "__firstlineno__" 218 (.int 4 217),de P "__static_attributes__" 219 (.ref 35),de P "__doc__" 220 .none] 2),#[]⟩
noncomputable def ko37 (P:Params):Obj:=⟨(.type "type"),none,(.cls ⟨"OtherSigns",[(.ref 24)],[(.ref 37),(.ref 24),(.type "ValueError"),(.type "Exception"),(.type "BaseException"),(.type "object")],36,"OtherSigns",true,[],[],false,none,false⟩),#[(some (.ref 28)),none,(some (.str "OtherSigns" 207)),(some (.str "OtherSigns" 215)),(some (.builtin "ValueError.__new__")),(some (.bool true))]⟩
noncomputable def ko48 (P:Params):Obj:=⟨(.type "dict"),none,(.dict #[de P "__module__" 230 (.str "earlyscribe.errors" 187),de P "__firstlineno__" 234 (.int 6 233),de P "__static_attributes__" 235 (.ref 47),de P "__doc__" 236 .none] 2),#[]⟩
noncomputable def ko49 (P:Params):Obj:=⟨(.type "type"),none,(.cls ⟨"TooMany",[(.ref 24)],[(.ref 49),(.ref 24),(.type "ValueError"),(.type "Exception"),(.type "BaseException"),(.type "object")],48,"TooMany",true,[],[],false,none,false⟩),#[(some (.ref 40)),none,(some (.str "TooMany" 223)),(some (.str "TooMany" 231)),(some (.builtin "ValueError.__new__")),(some (.bool true))]⟩
noncomputable def ko57 (P:Params):Obj:=cob "refuse_other_signs" 253 254 255 15 2 (.ref 52) (.ref 53) .none (.ref 54) (.ref 55) (.ref 56) 258 259
noncomputable def ko58 (P:Params):Obj:=fob "refuse_other_signs" (top 11) (.type "function") none .none .none (.str "earlyscribe.scribes" 239) none (.ref 57) .none #[]
noncomputable def ko64 (P:Params):Obj:=cob "refuse_many_pairs" 261 262 263 18 2 (.ref 59) (.ref 60) .none (.ref 61) (.ref 62) (.ref 63) 266 267
noncomputable def ko65 (P:Params):Obj:=fob "refuse_many_pairs" (top 12) (.type "function") none .none .none (.str "earlyscribe.scribes" 239) none (.ref 64) .none #[]
noncomputable def ko71 (P:Params):Obj:=cob "places_at" 275 276 277 24 2 (.ref 66) (.ref 67) .none (.ref 68) (.ref 69) (.ref 70) 283 284
noncomputable def ko72 (P:Params):Obj:=fob "places_at" (top 16) (.type "function") none .none .none (.str "earlyscribe.trims" 269) none (.ref 71) .none #[]
noncomputable def ko78 (P:Params):Obj:=cob "traces_from" 286 287 288 29 4 (.ref 73) (.ref 74) .none (.ref 75) (.ref 76) (.ref 77) 301 302
noncomputable def ko79 (P:Params):Obj:=fob "traces_from" (top 17) (.type "function") none .none .none (.str "earlyscribe.trims" 269) none (.ref 78) .none #[]
noncomputable def ko85 (P:Params):Obj:=cob "traces_from_begins" 304 305 306 46 1 (.ref 80) (.ref 81) .none (.ref 82) (.ref 83) (.ref 84) 308 309
noncomputable def ko86 (P:Params):Obj:=fob "traces_from_begins" (top 18) (.type "function") none .none .none (.str "earlyscribe.trims" 269) none (.ref 85) .none #[]
noncomputable def ko92 (P:Params):Obj:=cob "traces_to_ends" 311 312 313 48 1 (.ref 87) (.ref 88) .none (.ref 89) (.ref 90) (.ref 91) 315 316
noncomputable def ko93 (P:Params):Obj:=fob "traces_to_ends" (top 19) (.type "function") none .none .none (.str "earlyscribe.trims" 269) none (.ref 92) .none #[]
noncomputable def ko99 (P:Params):Obj:=cob "trail_of" 318 319 320 50 4 (.ref 94) (.ref 95) .none (.ref 96) (.ref 97) (.ref 98) 327 328
noncomputable def ko100 (P:Params):Obj:=fob "trail_of" (top 20) (.type "function") none .none .none (.str "earlyscribe.trims" 269) none (.ref 99) .none #[]
noncomputable def ko106 (P:Params):Obj:=cob "refuse_many_rooms" 338 339 340 61 1 (.ref 101) (.ref 102) .none (.ref 103) (.ref 104) (.ref 105) 342 343
noncomputable def ko107 (P:Params):Obj:=fob "refuse_many_rooms" (top 25) (.type "function") none .none .none (.str "earlyscribe.choices" 330) none (.ref 106) .none #[]
noncomputable def ko113 (P:Params):Obj:=cob "two_of_each" 345 346 347 64 1 (.ref 108) (.ref 109) .none (.ref 110) (.ref 111) (.ref 112) 353 354
noncomputable def ko114 (P:Params):Obj:=fob "two_of_each" (top 26) (.type "function") none .none .none (.str "earlyscribe.choices" 330) none (.ref 113) .none #[]
noncomputable def ko118 (P:Params):Obj:=cob "doubled_marks" 356 357 358 72 1 (.ref 115) (.ref 116) .none .none .none (.ref 117) 359 360
noncomputable def ko119 (P:Params):Obj:=fob "doubled_marks" (top 27) (.type "function") none .none .none (.str "earlyscribe.choices" 330) none (.ref 118) .none #[]
noncomputable def ko123 (P:Params):Obj:=cob "places_by_sign" 362 363 364 81 1 (.ref 120) (.ref 121) .none .none .none (.ref 122) 365 366
noncomputable def ko124 (P:Params):Obj:=fob "places_by_sign" (top 28) (.type "function") none .none .none (.str "earlyscribe.choices" 330) none (.ref 123) .none #[]
noncomputable def ko130 (P:Params):Obj:=cob "doubled_steps" 368 369 370 86 1 (.ref 125) (.ref 126) .none (.ref 127) (.ref 128) (.ref 129) 380 381
noncomputable def ko131 (P:Params):Obj:=fob "doubled_steps" (top 29) (.type "function") none .none .none (.str "earlyscribe.choices" 330) none (.ref 130) .none #[]
noncomputable def ko137 (P:Params):Obj:=cob "doubled_of" 383 384 385 97 1 (.ref 132) (.ref 133) .none (.ref 134) (.ref 135) (.ref 136) 390 391
noncomputable def ko138 (P:Params):Obj:=fob "doubled_of" (top 30) (.type "function") none .none .none (.str "earlyscribe.choices" 330) none (.ref 137) .none #[]
noncomputable def ko144 (P:Params):Obj:=cob "behind_one_another" 393 394 395 102 2 (.ref 139) (.ref 140) .none (.ref 141) (.ref 142) (.ref 143) 398 399
noncomputable def ko145 (P:Params):Obj:=fob "behind_one_another" (top 31) (.type "function") none .none .none (.str "earlyscribe.choices" 330) none (.ref 144) .none #[]
noncomputable def ko151 (P:Params):Obj:=cob "words_ahead" 401 402 403 104 2 (.ref 146) (.ref 147) .none (.ref 148) (.ref 149) (.ref 150) 410 411
noncomputable def ko152 (P:Params):Obj:=fob "words_ahead" (top 32) (.type "function") none .none .none (.str "earlyscribe.choices" 330) none (.ref 151) .none #[]
noncomputable def ko158 (P:Params):Obj:=cob "words_behind" 413 414 415 113 2 (.ref 153) (.ref 154) .none (.ref 155) (.ref 156) (.ref 157) 422 423
noncomputable def ko159 (P:Params):Obj:=fob "words_behind" (top 33) (.type "function") none .none .none (.str "earlyscribe.choices" 330) none (.ref 158) .none #[]
noncomputable def ko165 (P:Params):Obj:=cob "are_apart" 425 426 427 122 2 (.ref 160) (.ref 161) .none (.ref 162) (.ref 163) (.ref 164) 430 431
noncomputable def ko166 (P:Params):Obj:=fob "are_apart" (top 34) (.type "function") none .none .none (.str "earlyscribe.choices" 330) none (.ref 165) .none #[]
noncomputable def ko172 (P:Params):Obj:=cob "way_apart_by_begin" 433 434 435 124 2 (.ref 167) (.ref 168) .none (.ref 169) (.ref 170) (.ref 171) 442 443
noncomputable def ko173 (P:Params):Obj:=fob "way_apart_by_begin" (top 35) (.type "function") none .none .none (.str "earlyscribe.choices" 330) none (.ref 172) .none #[]
noncomputable def ko179 (P:Params):Obj:=cob "trail_from_begin" 445 446 447 131 3 (.ref 174) (.ref 175) .none (.ref 176) (.ref 177) (.ref 178) 451 452
noncomputable def ko180 (P:Params):Obj:=fob "trail_from_begin" (top 36) (.type "function") none .none .none (.str "earlyscribe.choices" 330) none (.ref 179) .none #[]
noncomputable def ko186 (P:Params):Obj:=cob "way_apart_by_step" 454 455 456 133 3 (.ref 181) (.ref 182) .none (.ref 183) (.ref 184) (.ref 185) 467 468
noncomputable def ko187 (P:Params):Obj:=fob "way_apart_by_step" (top 37) (.type "function") none .none .none (.str "earlyscribe.choices" 330) none (.ref 186) .none #[]
noncomputable def ko193 (P:Params):Obj:=cob "way_apart_by_end" 470 471 472 144 2 (.ref 188) (.ref 189) .none (.ref 190) (.ref 191) (.ref 192) 479 480
noncomputable def ko194 (P:Params):Obj:=fob "way_apart_by_end" (top 38) (.type "function") none .none .none (.str "earlyscribe.choices" 330) none (.ref 193) .none #[]
noncomputable def ko200 (P:Params):Obj:=cob "way_apart" 482 483 484 151 1 (.ref 195) (.ref 196) .none (.ref 197) (.ref 198) (.ref 199) 489 490
noncomputable def ko201 (P:Params):Obj:=fob "way_apart" (top 39) (.type "function") none .none .none (.str "earlyscribe.choices" 330) none (.ref 200) .none #[]
noncomputable def ko205 (P:Params):Obj:=cob "single_way" 492 493 494 160 3 (.ref 202) (.ref 203) .none .none .none (.ref 204) 495 496
noncomputable def ko206 (P:Params):Obj:=fob "single_way" (top 40) (.type "function") none .none .none (.str "earlyscribe.choices" 330) none (.ref 205) .none #[]
noncomputable def ko212 (P:Params):Obj:=cob "two_ways" 498 499 500 163 1 (.ref 207) (.ref 208) .none (.ref 209) (.ref 210) (.ref 211) 504 505
noncomputable def ko213 (P:Params):Obj:=fob "two_ways" (top 41) (.type "function") none .none .none (.str "earlyscribe.choices" 330) none (.ref 212) .none #[]
noncomputable def ko219 (P:Params):Obj:=cob "each_once" 509 510 511 171 1 (.ref 214) (.ref 215) .none (.ref 216) (.ref 217) (.ref 218) 515 516
noncomputable def ko220 (P:Params):Obj:=fob "each_once" (top 43) (.type "function") none .none .none (.str "earlyscribe.forms" 507) none (.ref 219) .none #[]
noncomputable def ko226 (P:Params):Obj:=cob "turned" 520 521 522 177 1 (.ref 221) (.ref 222) .none (.ref 223) (.ref 224) (.ref 225) 524 525
noncomputable def ko227 (P:Params):Obj:=fob "turned" (top 45) (.type "function") none .none .none (.str "earlyscribe.mirrors" 518) none (.ref 226) .none #[]
noncomputable def ko231 (P:Params):Obj:=cob "mirrored" 527 528 529 179 1 (.ref 228) (.ref 229) .none .none .none (.ref 230) 530 531
noncomputable def ko232 (P:Params):Obj:=fob "mirrored" (top 46) (.type "function") none .none .none (.str "earlyscribe.mirrors" 518) none (.ref 231) .none #[]
noncomputable def ko236 (P:Params):Obj:=cob "either_of" 533 534 535 184 2 (.ref 233) (.ref 234) .none .none .none (.ref 235) 536 537
noncomputable def ko237 (P:Params):Obj:=fob "either_of" (top 47) (.type "function") none .none .none (.str "earlyscribe.mirrors" 518) none (.ref 236) .none #[]
noncomputable def ko241 (P:Params):Obj:=cob "kept_marks" 539 540 541 193 3 (.ref 238) (.ref 239) .none .none .none (.ref 240) 542 543
noncomputable def ko242 (P:Params):Obj:=fob "kept_marks" (top 48) (.type "function") none .none .none (.str "earlyscribe.mirrors" 518) none (.ref 241) .none #[]
noncomputable def ko246 (P:Params):Obj:=cob "moves_by_sign" 545 546 547 199 1 (.ref 243) (.ref 244) .none .none .none (.ref 245) 548 549
noncomputable def ko247 (P:Params):Obj:=fob "moves_by_sign" (top 49) (.type "function") none .none .none (.str "earlyscribe.mirrors" 518) none (.ref 246) .none #[]
noncomputable def ko253 (P:Params):Obj:=cob "kept_steps" 551 552 553 204 3 (.ref 248) (.ref 249) .none (.ref 250) (.ref 251) (.ref 252) 565 566
noncomputable def ko254 (P:Params):Obj:=fob "kept_steps" (top 50) (.type "function") none .none .none (.str "earlyscribe.mirrors" 518) none (.ref 253) .none #[]
noncomputable def ko260 (P:Params):Obj:=cob "kept_to" 568 569 570 211 2 (.ref 255) (.ref 256) .none (.ref 257) (.ref 258) (.ref 259) 577 578
noncomputable def ko261 (P:Params):Obj:=fob "kept_to" (top 51) (.type "function") none .none .none (.str "earlyscribe.mirrors" 518) none (.ref 260) .none #[]
noncomputable def ko267 (P:Params):Obj:=cob "_law_cell_at" 582 583 584 220 2 (.ref 262) (.ref 263) .none (.ref 264) (.ref 265) (.ref 266) 587 588
noncomputable def ko268 (P:Params):Obj:=fob "_law_cell_at" (top 53) (.type "function") none .none .none (.str "law_earlyscribe_k87_whole_two_ways_from_the" 580) none (.ref 267) .none #[]
noncomputable def ko274 (P:Params):Obj:=cob "_law_mixed" 590 591 592 224 2 (.ref 269) (.ref 270) .none (.ref 271) (.ref 272) (.ref 273) 596 597
noncomputable def ko275 (P:Params):Obj:=fob "_law_mixed" (top 54) (.type "function") none .none .none (.str "law_earlyscribe_k87_whole_two_ways_from_the" 580) none (.ref 274) .none #[]
noncomputable def ko281 (P:Params):Obj:=cob "_law_word" 599 600 601 228 1 (.ref 276) (.ref 277) .none (.ref 278) (.ref 279) (.ref 280) 607 608
noncomputable def ko282 (P:Params):Obj:=fob "_law_word" (top 55) (.type "function") none .none .none (.str "law_earlyscribe_k87_whole_two_ways_from_the" 580) none (.ref 281) .none #[]
noncomputable def ko286 (P:Params):Obj:=cob "_law_signs" 610 611 612 240 1 (.ref 283) (.ref 284) .none .none .none (.ref 285) 613 614
noncomputable def ko287 (P:Params):Obj:=fob "_law_signs" (top 56) (.type "function") none .none .none (.str "law_earlyscribe_k87_whole_two_ways_from_the" 580) none (.ref 286) .none #[]
noncomputable def ko293 (P:Params):Obj:=cob "_law_rest" 616 617 618 244 3 (.ref 288) (.ref 289) .none (.ref 290) (.ref 291) (.ref 292) 624 625
noncomputable def ko294 (P:Params):Obj:=fob "_law_rest" (top 57) (.type "function") none .none .none (.str "law_earlyscribe_k87_whole_two_ways_from_the" 580) none (.ref 293) .none #[]
noncomputable def ko298 (P:Params):Obj:=cob "_law_plain" 627 628 629 250 3 (.ref 295) (.ref 296) .none .none .none (.ref 297) 630 631
noncomputable def ko299 (P:Params):Obj:=fob "_law_plain" (top 58) (.type "function") none .none .none (.str "law_earlyscribe_k87_whole_two_ways_from_the" 580) none (.ref 298) .none #[]
noncomputable def ko305 (P:Params):Obj:=cob "_law_choices" 633 634 635 271 3 (.ref 300) (.ref 301) .none (.ref 302) (.ref 303) (.ref 304) 648 649
noncomputable def ko306 (P:Params):Obj:=fob "_law_choices" (top 59) (.type "function") none .none .none (.str "law_earlyscribe_k87_whole_two_ways_from_the" 580) none (.ref 305) .none #[]
noncomputable def ko312 (P:Params):Obj:=cob "_law_twofold" 651 652 653 290 2 (.ref 307) (.ref 308) .none (.ref 309) (.ref 310) (.ref 311) 674 675
noncomputable def ko313 (P:Params):Obj:=fob "_law_twofold" (top 60) (.type "function") none .none .none (.str "law_earlyscribe_k87_whole_two_ways_from_the" 580) none (.ref 312) .none #[]
noncomputable def ko319 (P:Params):Obj:=cob "_law_spoilt" 677 678 679 311 3 (.ref 314) (.ref 315) .none (.ref 316) (.ref 317) (.ref 318) 689 690
noncomputable def ko320 (P:Params):Obj:=fob "_law_spoilt" (top 61) (.type "function") none .none .none (.str "law_earlyscribe_k87_whole_two_ways_from_the" 580) none (.ref 319) .none #[]
noncomputable def ko326 (P:Params):Obj:=cob "_law_drawn" 692 693 694 329 1 (.ref 321) (.ref 322) .none (.ref 323) (.ref 324) (.ref 325) 698 699
noncomputable def ko327 (P:Params):Obj:=fob "_law_drawn" (top 62) (.type "function") none .none .none (.str "law_earlyscribe_k87_whole_two_ways_from_the" 580) none (.ref 326) .none #[]
noncomputable def ko333 (P:Params):Obj:=cob "_law_filter" 701 702 703 337 2 (.ref 328) (.ref 329) .none (.ref 330) (.ref 331) (.ref 332) 714 715
noncomputable def ko334 (P:Params):Obj:=fob "_law_filter" (top 63) (.type "function") none .none .none (.str "law_earlyscribe_k87_whole_two_ways_from_the" 580) none (.ref 333) .none #[]
noncomputable def ko338 (P:Params):Obj:=cob "law" 717 718 719 346 1 (.ref 335) (.ref 336) .none .none .none (.ref 337) 720 721
noncomputable def ko339 (P:Params):Obj:=fob "law" (top 64) (.type "function") none .none .none (.str "law_earlyscribe_k87_whole_two_ways_from_the" 580) none (.ref 338) .none #[]
noncomputable def K (P:Params):Frag:=(nat_lit 2,ko2 P)::(nat_lit 3,ko3 P)::(nat_lit 23,ko23 P)::(nat_lit 24,ko24 P)::(nat_lit 36,ko36 P)::(nat_lit 37,ko37 P)::(nat_lit 48,ko48 P)::(nat_lit 49,ko49 P)::(nat_lit 57,ko57 P)::(nat_lit 58,ko58 P)::(nat_lit 64,ko64 P)::(nat_lit 65,ko65 P)::(nat_lit 71,ko71 P)::(nat_lit 72,ko72 P)::(nat_lit 78,ko78 P)::(nat_lit 79,ko79 P)::(nat_lit 85,ko85 P)::(nat_lit 86,ko86 P)::(nat_lit 92,ko92 P)::(nat_lit 93,ko93 P)::(nat_lit 99,ko99 P)::(nat_lit 100,ko100 P)::(nat_lit 106,ko106 P)::(nat_lit 107,ko107 P)::(nat_lit 113,ko113 P)::(nat_lit 114,ko114 P)::(nat_lit 118,ko118 P)::(nat_lit 119,ko119 P)::(nat_lit 123,ko123 P)::(nat_lit 124,ko124 P)::(nat_lit 130,ko130 P)::(nat_lit 131,ko131 P)::(nat_lit 137,ko137 P)::(nat_lit 138,ko138 P)::(nat_lit 144,ko144 P)::(nat_lit 145,ko145 P)::(nat_lit 151,ko151 P)::(nat_lit 152,ko152 P)::(nat_lit 158,ko158 P)::(nat_lit 159,ko159 P)::(nat_lit 165,ko165 P)::(nat_lit 166,ko166 P)::(nat_lit 172,ko172 P)::(nat_lit 173,ko173 P)::(nat_lit 179,ko179 P)::(nat_lit 180,ko180 P)::(nat_lit 186,ko186 P)::(nat_lit 187,ko187 P)::(nat_lit 193,ko193 P)::(nat_lit 194,ko194 P)::(nat_lit 200,ko200 P)::(nat_lit 201,ko201 P)::(nat_lit 205,ko205 P)::(nat_lit 206,ko206 P)::(nat_lit 212,ko212 P)::(nat_lit 213,ko213 P)::(nat_lit 219,ko219 P)::(nat_lit 220,ko220 P)::(nat_lit 226,ko226 P)::(nat_lit 227,ko227 P)::(nat_lit 231,ko231 P)::(nat_lit 232,ko232 P)::(nat_lit 236,ko236 P)::(nat_lit 237,ko237 P)::(nat_lit 241,ko241 P)::(nat_lit 242,ko242 P)::(nat_lit 246,ko246 P)::(nat_lit 247,ko247 P)::(nat_lit 253,ko253 P)::(nat_lit 254,ko254 P)::(nat_lit 260,ko260 P)::(nat_lit 261,ko261 P)::(nat_lit 267,ko267 P)::(nat_lit 268,ko268 P)::(nat_lit 274,ko274 P)::(nat_lit 275,ko275 P)::(nat_lit 281,ko281 P)::(nat_lit 282,ko282 P)::(nat_lit 286,ko286 P)::(nat_lit 287,ko287 P)::(nat_lit 293,ko293 P)::(nat_lit 294,ko294 P)::(nat_lit 298,ko298 P)::(nat_lit 299,ko299 P)::(nat_lit 305,ko305 P)::(nat_lit 306,ko306 P)::(nat_lit 312,ko312 P)::(nat_lit 313,ko313 P)::(nat_lit 319,ko319 P)::(nat_lit 320,ko320 P)::(nat_lit 326,ko326 P)::(nat_lit 327,ko327 P)::(nat_lit 333,ko333 P)::(nat_lit 334,ko334 P)::(nat_lit 338,ko338 P)::(nat_lit 339,ko339 P)::[]
def as:List Addr:=[2,3,23,24,36,37,48,49,57,58,64,65,71,72,78,79,85,86,92,93,99,100,106,107,113,114,118,119,123,124,130,131,137,138,144,145,151,152,158,159,165,166,172,173,179,180,186,187,193,194,200,201,205,206,212,213,219,220,226,227,231,232,236,237,241,242,246,247,253,254,260,261,267,268,274,275,281,282,286,287,293,294,298,299,305,306,312,313,319,320,326,327,333,334,338,339]
end My
lay_quick My.K
namespace My
open PySem PySem.W PyProof.Rows L2 L3 PySem.Challenge
noncomputable def q:Program:=view pw_earlyscribe_k87_whole_two_ways_from_the [1,2,3,5,6,7,8,9,10,11,12,14,15,16,17,18,19,20,22,23,24,25,26,27,28,29,30,31,32,33,34,35,36,37,38,39,40,41,43,45,46,47,48,49,50,51,53,54,55,56,57,58,59,60,61,62,63,64]
noncomputable def env:Env:={ scope:=pw_earlyscribe_k87_whole_two_ways_from_the.main.scope,locals:=mainNs,globals:=mainNs,cells:=[],code:=(.ref 13),frame:=some 14 }
theorem size (w:World):((boot_heap w.params).isNs mainGlobals && (Array.mk ([]:List GenState)).size == 0,(boot_heap w.params).objs.size,(boot_heap w.params).nsMap mainGlobals "__annotations__")=(true,11,(some (.ref 6))):=by
 rw[PySem.W.Fast.te8920871248978507458]
 kernel_rfl
theorem hl:LeftO pw_earlyscribe_k87_whole_two_ways_from_the q [] (fun s=>xlAt q [] s && recOk [] s) (fun s=>as.map s.heap.get?) (fun w=>(K w.params).map fun x=>some x.2) 4470:=by
 refine Hd.left_of (k1:=12) (k2:=1) (k3:=2173) (k4:=2) (n₁:=15) (m₀:=11) (ann:=(some (.ref 6))) (env:=env) (fp:=⟨0,0,0,0⟩) (p1:=⟨0,0,0,0⟩) (p2:=⟨0,0,0,0⟩) (p3:=⟨346,0,354,103⟩) rfl rfl (fun _=>rfl) size rfl ?_
 intro w
 unfold Hd.look q env
 rw[PySem.W.Fast.te15667345088766844465,PySem.W.Fast.te14374325043358763698,PySem.W.Fast.te10110043849684766642,PySem.W.Fast.te14082659384304107361,PySem.W.Fast.te14364793385576792824,PySem.W.Fast.te4187177175401517315,PySem.W.Fast.te5923862056798008813,PySem.W.Fast.te11892475500146522536,PySem.W.Fast.te12754154230045568370,PySem.W.Fast.te13211164900844083794]
 kernel_rfl
end My
namespace My
open PySem PySem.Spec PyProof.Rows L2 L3 PySem.Challenge
open PySem.W (nsIn codeIn keepIn fnOf mg_of mg_none_of findIn mroIn kitOne Frag)
abbrev ϖX:Stmt:=top 11
abbrev ϖ2:Stmt:=top 12
abbrev ϕe:Stmt:=top 16
abbrev ϑF:Stmt:=top 17
abbrev ϖT:Stmt:=top 18
abbrev ϑf:Stmt:=top 19
abbrev ϕA:Stmt:=top 20
abbrev ϖ3:Stmt:=top 25
abbrev ϑD:Stmt:=top 26
abbrev ϑo:Stmt:=top 27
abbrev ϑe:Stmt:=top 28
abbrev ϑn:Stmt:=top 29
abbrev ϑW:Stmt:=top 30
abbrev ϖU:Stmt:=top 31
abbrev ϑH:Stmt:=top 32
abbrev ϑw:Stmt:=top 33
abbrev ϑ9:Stmt:=top 34
abbrev ϖV:Stmt:=top 35
abbrev ϖ_:Stmt:=top 36
abbrev ϖ1:Stmt:=top 37
abbrev ϖ7:Stmt:=top 38
abbrev ϕc:Stmt:=top 39
abbrev ϑU:Stmt:=top 40
abbrev ϕE:Stmt:=top 41
abbrev ϑ8:Stmt:=top 43
abbrev ϰx:Stmt:=top 45
abbrev ϕD:Stmt:=top 46
abbrev ϕf:Stmt:=top 47
abbrev ϑ0:Stmt:=top 48
abbrev ϑl:Stmt:=top 49
abbrev ϑX:Stmt:=top 50
abbrev ϕV:Stmt:=top 51
abbrev ϑz:Stmt:=top 53
abbrev ϕi:Stmt:=top 54
abbrev ϕy:Stmt:=top 55
abbrev ϕb:Stmt:=top 56
abbrev ϕB:Stmt:=top 57
abbrev ϕd:Stmt:=top 58
abbrev ϑI:Stmt:=top 59
abbrev ϑB:Stmt:=top 60
abbrev ϑY:Stmt:=top 61
abbrev ϕh:Stmt:=top 62
abbrev ϑZ:Stmt:=top 63
abbrev ϵO:Stmt:=top 64
structure Bi (mg:Str→Option Value):Prop where
 enumerate:mg "enumerate"=none
 len:mg "len"=none
 list:mg "list"=none
 max:mg "max"=none
 min:mg "min"=none
 range:mg "range"=none
 reversed:mg "reversed"=none
 sum:mg "sum"=none
 BEGINS:∃t,mg "BEGINS"=some (.int 2 t)
 ENDS:∃t,mg "ENDS"=some (.int 4 t)
 INTO:∃t,mg "INTO"=some (.int 3 t)
 MOST_ROOMS:∃t,mg "MOST_ROOMS"=some (.int 200 t)
 MOST_ROOMS_WITH_CHOICES:∃t,mg "MOST_ROOMS_WITH_CHOICES"=some (.int 8 t)
 OUT_OF:∃t,mg "OUT_OF"=some (.int 0 t)
 PLACES:∃t,mg "PLACES"=some (.int 1 t)
 ROOMS:∃t,mg "ROOMS"=some (.int 1 t)
 SIGNS:∃t,mg "SIGNS"=some (.int 0 t)
 STEPS:∃t,mg "STEPS"=some (.int 3 t)
 WORDS:∃t,mg "WORDS"=some (.int 2 t)
structure Xb (K:Frag) (mg:Str→Option Value) (ϖc ϖg:Addr):Prop where
 nm_OtherSigns:mg "OtherSigns"=some (.ref ϖc)
 nm_TooMany:mg "TooMany"=some (.ref ϖg)
 own_OtherSigns:OwnX K mg "OtherSigns" ϖc
 xc_OtherSigns:XCls K ϖc
 own_TooMany:OwnX K mg "TooMany" ϖg
 xc_TooMany:XCls K ϖg
local macro_rules|`(tactic| walk_at "side")=>`(tactic| first|exact pz|exact⟨pz,pz⟩|exact .inr ⟨by decide,by decide⟩|exact⟨by omega,by omega⟩|exact .inl ⟨by omega,by omega⟩|exact .inr ⟨by omega,by omega⟩|(show(0:Int) < _;omega)|exact szl (by simp)|exact szl (by omega))
local macro_rules|`(tactic| walk_at "r")=>`(tactic| first|refine⟨_,rfl,?_⟩|refine⟨_,_,rfl,rfl,?_⟩|refine⟨rfl,?_⟩|refine⟨by walk_at "side",?_⟩)
local macro_rules|`(tactic| walk_at "rd")=>`(tactic| repeat walk_at "r")
def ϲV (lo hi:Int) (v:V):Prop:=∃n:Int,v=.int n∧lo≤n∧n≤hi
theorem szl' {n:Nat} (h:n≤99999):n < sizeLine:=Nat.lt_of_lt_of_le (Nat.lt_succ_of_le h) (szl (by omega))
def Wd (x:Str):Prop:=x.length≤40∧∀c∈cl x,97≤c∧c≤122
structure OkS (pl:Bool) (s:Scr) (n:Nat):Prop where
 lb:s.begins.length≤n
 ls:s.steps.length≤n
 le:s.ends.length≤n
 mb:∀m∈s.begins,0≤m.1∧m.1 < s.rooms∧Wd m.2
 ms:∀t∈s.steps,0≤t.1∧t.1 < s.rooms∧(∃ c∈cl s.signs,t.2.1=⟨#[c]⟩)∧Wd t.2.2.1∧0≤t.2.2.2∧t.2.2.2 < s.rooms
 me:∀m∈s.ends,0≤m.1∧m.1 < s.rooms∧Wd m.2
 nb:s.begins.Nodup
 ns:s.steps.Nodup
 ne:s.ends.Nodup
 pb:pl=true→s.begins.length≤1
 po:pl=true→(s.steps.map fun t=>(t.1,t.2.1)).Nodup
 pe:pl=true→(s.ends.map (·.1)).Nodup
theorem OkS.mono {pl:Bool}{s:Scr}{n m:Nat} (h:OkS pl s n) (le:n≤m):OkS pl s m:=
 ⟨Nat.le_trans h.lb le,Nat.le_trans h.ls le,Nat.le_trans h.le le,h.mb,h.ms,h.me,h.nb,h.ns,h.ne,h.pb,h.po,h.pe⟩
theorem ϑu {α:Type}{xs:List α}{x:α} (h:xs.Nodup) (hn:x∉xs):(xs++[x]).Nodup:=by
 rw[List.nodup_append]
 refine⟨h,by simp,fun a ha b hb=>?_⟩
 rw[List.mem_singleton] at hb
 subst hb
 intro e;subst e;exact hn ha
theorem OkS.begin {pl:Bool}{g:Str}{r:Int}{B:List Mk}{S:List Stp}{E:List Mk}{n:Nat} (h:OkS pl ⟨g,r,B,S,E⟩ n) {i:Int}{x:Str} (h0:0≤i) (h1:i < r) (hw:Wd x) (hn:(i,x)∉B) (hp:pl=true→B.length=0):OkS pl ⟨g,r,B++[(i,x)],S,E⟩ (n+1):=by
 have ha:=h.mono (Nat.le_succ n)
 refine⟨?_,ha.ls,ha.le,fun m hm=>?_,h.ms,h.me,ϑu h.nb hn,h.ns,h.ne,fun q=>?_,h.po,h.pe⟩
 ·show(B++[(i,x)]).length≤n+1
  have:B.length≤n:=h.lb
  rw[List.length_append,List.length_singleton];omega
 ·rcases List.mem_append.mp hm with hm|hm
  ·exact h.mb m hm
  ·rw[List.mem_singleton.mp hm];exact⟨h0,h1,hw⟩
 ·show(B++[(i,x)]).length≤1
  rw[List.length_append,hp q,List.length_singleton];omega
theorem OkS.end_ {pl:Bool}{g:Str}{r:Int}{B:List Mk}{S:List Stp}{E:List Mk}{n:Nat} (h:OkS pl ⟨g,r,B,S,E⟩ n) {i:Int}{x:Str} (h0:0≤i) (h1:i < r) (hw:Wd x) (hn:(i,x)∉E) (hp:pl=true→∀m∈E,m.1≠i):OkS pl ⟨g,r,B,S,E++[(i,x)]⟩ (n+1):=by
 have ha:=h.mono (Nat.le_succ n)
 refine⟨ha.lb,ha.ls,?_,h.mb,h.ms,fun m hm=>?_,h.nb,h.ns,ϑu h.ne hn,h.pb,h.po,fun q=>?_⟩
 ·show(E++[(i,x)]).length≤n+1
  have:E.length≤n:=h.le
  rw[List.length_append,List.length_singleton];omega
 ·rcases List.mem_append.mp hm with hm|hm
  ·exact h.me m hm
  ·rw[List.mem_singleton.mp hm];exact⟨h0,h1,hw⟩
 ·show((E++[(i,x)]).map (·.1)).Nodup
  rw[List.map_append]
  refine ϑu (h.pe q) fun hm=>?_
  obtain⟨m,hm,e⟩:=List.mem_map.mp hm
  exact hp q m hm e
theorem OkS.step {pl:Bool}{g:Str}{r:Int}{B:List Mk}{S:List Stp}{E:List Mk}{n:Nat} (h:OkS pl ⟨g,r,B,S,E⟩ n) {i j:Int}{y x:Str} (h0:0≤i) (h1:i < r) (hy:∃c∈cl g,y=⟨#[c]⟩) (hw:Wd x) (h2:0≤j) (h3:j < r) (hn:(i,y,x,j)∉S) (hp:pl=true→∀t∈S,¬ (t.1=i∧t.2.1=y)) :
  OkS pl ⟨g,r,B,S++[(i,y,x,j)],E⟩ (n+1):=by
 have ha:=h.mono (Nat.le_succ n)
 refine⟨ha.lb,?_,ha.le,h.mb,fun t ht=>?_,h.me,h.nb,ϑu h.ns hn,h.ne,h.pb,fun q=>?_,h.pe⟩
 ·show(S++[(i,y,x,j)]).length≤n+1
  have:S.length≤n:=h.ls
  rw[List.length_append,List.length_singleton];omega
 ·rcases List.mem_append.mp ht with hm|hm
  ·exact h.ms t hm
  ·rw[List.mem_singleton.mp hm];exact⟨h0,h1,hy,hw,h2,h3⟩
 ·show((S++[(i,y,x,j)]).map fun t=>(t.1,t.2.1)).Nodup
  rw[List.map_append]
  refine ϑu (h.po q) fun hm=>?_
  obtain⟨t,hm,e⟩:=List.mem_map.mp hm
  injection e with e1 e2
  exact hp q t hm ⟨e1,e2⟩
def HI (K:Frag) (H0:Hp) (pb ps pe:Addr) (pl:Bool) (g:Str) (r:Int) (n:Nat) (H:Hp):Prop:=∃B S E xb xs xe,Same H0 H∧H pb=some (.lst xb)∧H ps=some (.lst xs)∧H pe=some (.lst xe) ∧
 Paired (MkV K H) B xb∧Paired (StV K H) S xs∧Paired (MkV K H) E xe∧OkS pl ⟨g,r,B,S,E⟩ n
theorem ϖv {H0 H:Hp}{p:Addr}{o:HO} (g:Same H0 H) (h:H0 p=none):Same H0 (upd H p o):=fun b u q=>by rw[ϖq (ϖn q h)];exact g b u q
theorem HI.mono {K:Frag}{H0 H H':Hp}{pb ps pe:Addr}{pl:Bool}{g:Str}{r:Int}{n m:Nat} (h:HI K H0 pb ps pe pl g r n H) (s:Same H H') (le:n≤m):HI K H0 pb ps pe pl g r m H':=by
 obtain⟨B,S,E,xb,xs,xe,h1,h2,h3,h4,h5,h6,h7,h8⟩:=h
 have g':=Same.grow s
 exact⟨B,S,E,xb,xs,xe,h1.trans s,s _ _ h2,s _ _ h3,s _ _ h4,ϖb (fun _ _=>MkV.mono g') h5,ϖb (fun _ _=>StV.mono g') h6,ϖb (fun _ _=>MkV.mono g') h7,h8.mono le⟩
structure Apart (H0:Hp) (pb ps pe:Addr):Prop where
 nb:H0 pb=none
 ns:H0 ps=none
 ne:H0 pe=none
 bs:pb≠ps
 be:pb≠pe
 se:ps≠pe
def ϵp (ns:List Int) (k:Int):Int:=if k < ns.length then (ns[k.toNat]?).getD 0 else 0
def ϵk (K:Frag):Sp:=fun vs H Q _=>∃(a:Addr) (ns:List Int) (k:Int),vs=[.ref a,.int k]∧SqL K H a (ns.map V.int)∧0≤k∧Q (.int (ϵp ns k)) H
def ϡt:Sp:=fun vs H Q _=>∃c:Int,vs=[.int c]∧∀(x:Str) (H':Hp),Wd x→Same H H'→Q (.str x) H'
def NewS (K:Frag) (H H':Hp) (pl:Bool) (n:Nat) (s:Scr) (v:V) (pb ps pe:Addr):Prop:=Same H H'∧ScV K H' s v pb ps pe∧OkS pl s n∧0≤s.rooms∧s.rooms≤14∧1≤s.signs.length∧s.signs.length≤5∧(cl s.signs).Nodup∧(∀ c∈cl s.signs,97≤c∧c≤122)
def ScN (K:Frag) (H:Hp) (s:Scr) (v:V) (pb ps pe:Addr):Prop:=∃a xb xs xe,v=.ref a∧SqT K H a [.str s.signs,.int s.rooms,.ref pb,.ref ps,.ref pe]∧H pb=some (.lst xb)∧H ps=some (.lst xs)∧H pe=some (.lst xe) ∧
 Paired (MkV K H) s.begins xb∧Paired (StV K H) s.steps xs∧Paired (MkV K H) s.ends xe
theorem ScN.v {K:Frag}{H:Hp}{s:Scr}{v:V}{pb ps pe:Addr}:ScN K H s v pb ps pe→ScV K H s v pb ps pe
 |⟨a,xb,xs,xe,e,h1,h2,h3,h4,h5,h6,h7⟩=>⟨a,xb,xs,xe,e,h1,SqL.of h2,SqL.of h3,SqL.of h4,h5,h6,h7⟩
theorem ϡ5 (c:Nat):(⟨#[c]⟩:Str).length=1:=rfl
theorem ϑi (a b:Str):(a++b).length=a.length+b.length:=by
 rw[← ϖR,ϖS,List.length_append,ϖR,ϖR]
theorem cl_nil:∀c∈cl ("":Str),97≤c∧c≤122:=by
 intro c hc
 have e:cl ("":Str)=[]:=by decide +kernel
 rw[e] at hc;cases hc
theorem ϝ7 (c:Nat):cl ⟨#[c]⟩=[c]:=rfl
theorem iteB {b:Bool}{A B:Prop} (h1:b=true→A) (h2:b=false→B):if b=true then A else B:=by
 cases b
 ·exact iteF (h2 rfl)
 ·exact iteT (h1 rfl)
def SgnOk (g:Str):Prop:=1≤g.length∧g.length≤5∧(cl g).Nodup∧∀c∈cl g,97≤c∧c≤122
theorem HI.addStep {K:Frag}{H0 H:Hp}{pb ps pe:Addr}{pl:Bool}{g:Str}{r:Int}{n:Nat}{B:List Mk}{S:List Stp}{E:List Mk}{xb xs xe:List V}{t:Stp}{v:V} (A:Apart H0 pb ps pe) (h1:Same H0 H) (h2:H pb=some (.lst xb)) (h3:H ps=some (.lst xs)) (h4:H pe=some (.lst xe))
  (h5:Paired (MkV K H) B xb) (h6:Paired (StV K H) S xs) (h7:Paired (MkV K H) E xe) (h8:OkS pl ⟨g,r,B,S++[t],E⟩ n) (hv:StV K H t v):HI K H0 pb ps pe pl g r n (upd H ps (.lst (xs++[v]))):=by
 have gr:=ϕj h3 (.lst (xs++[v]))
 exact⟨B,S++[t],E,xb,xs++[v],xe,ϖv h1 A.ns,by rw[ϖq A.bs];exact h2,ϖd,by rw[ϖq A.se.symm];exact h4,ϖb (fun _ _=>MkV.mono gr) h5,
  ϖt (ϖb (fun _ _=>StV.mono gr) h6) (.cons (StV.mono gr hv) .nil),ϖb (fun _ _=>MkV.mono gr) h7,h8⟩
theorem HI.addEnd {K:Frag}{H0 H:Hp}{pb ps pe:Addr}{pl:Bool}{g:Str}{r:Int}{n:Nat}{B:List Mk}{S:List Stp}{E:List Mk}{xb xs xe:List V}{t:Mk}{v:V} (A:Apart H0 pb ps pe) (h1:Same H0 H) (h2:H pb=some (.lst xb)) (h3:H ps=some (.lst xs)) (h4:H pe=some (.lst xe))
  (h5:Paired (MkV K H) B xb) (h6:Paired (StV K H) S xs) (h7:Paired (MkV K H) E xe) (h8:OkS pl ⟨g,r,B,S,E++[t]⟩ n) (hv:MkV K H t v):HI K H0 pb ps pe pl g r n (upd H pe (.lst (xe++[v]))):=by
 have gr:=ϕj h4 (.lst (xe++[v]))
 exact⟨B,S,E++[t],xb,xs,xe++[v],ϖv h1 A.ne,by rw[ϖq A.be];exact h2,by rw[ϖq A.se];exact h3,ϖd,ϖb (fun _ _=>MkV.mono gr) h5,
  ϖb (fun _ _=>StV.mono gr) h6,ϖt (ϖb (fun _ _=>MkV.mono gr) h7) (.cons (MkV.mono gr hv) .nil),h8⟩
theorem HI.addBegin {K:Frag}{H0 H:Hp}{pb ps pe:Addr}{pl:Bool}{g:Str}{r:Int}{n:Nat}{B:List Mk}{S:List Stp}{E:List Mk}{xb xs xe:List V}{t:Mk}{v:V} (A:Apart H0 pb ps pe) (h1:Same H0 H) (h2:H pb=some (.lst xb)) (h3:H ps=some (.lst xs)) (h4:H pe=some (.lst xe))
  (h5:Paired (MkV K H) B xb) (h6:Paired (StV K H) S xs) (h7:Paired (MkV K H) E xe) (h8:OkS pl ⟨g,r,B++[t],S,E⟩ n) (hv:MkV K H t v):HI K H0 pb ps pe pl g r n (upd H pb (.lst (xb++[v]))):=by
 have gr:=ϕj h2 (.lst (xb++[v]))
 exact⟨B++[t],S,E,xb++[v],xs,xe,ϖv h1 A.nb,ϖd,by rw[ϖq A.bs.symm];exact h3,by rw[ϖq A.be.symm];exact h4,ϖt (ϖb (fun _ _=>MkV.mono gr) h5) (.cons (MkV.mono gr hv) .nil),
  ϖb (fun _ _=>StV.mono gr) h6,ϖb (fun _ _=>MkV.mono gr) h7,h8⟩
theorem ϰy {K:Frag}{H:Hp}{E:List Mk}{xe:List V}{m:Mk} (h:Paired (MkV K H) E xe):Reps K H (E.map dMk) xe:=ϲE (f:=dMk) (F:=MkV K H) (fun _ _ h=>MkV.rep h) h
theorem ϵW {K:Frag}{H:Hp}{E:List Stp}{xe:List V} (h:Paired (StV K H) E xe):Reps K H (E.map dSt) xe:=ϲE (f:=dSt) (F:=StV K H) (fun _ _ h=>StV.rep h) h
theorem ϖz {α:Type}{xs:List α}{i:Nat}{x:α} (h:xs[i]?=some x):xs.take (i+1)=xs.take i++[x]:=by rw[List.take_add_one,h];rfl
def inR (n:Nat) (i:Int):Prop:=0≤i∧i < n
instance (n:Nat) (i:Int):Decidable (inR n i):=inferInstanceAs (Decidable (_∧_))
def catS (ys:List Str):Str:=ys.foldl (·++·) ""
theorem nil_app (x:Str):("":Str)++x=x:=ϕq (by rw[ϖS,show cl ("":Str)=[] by decide +kernel,List.nil_append])
theorem ϝc (ys:List Str):Txt.join "" ys=catS ys:=by
 have go:∀(ys:List Str) (a:Array Nat),(⟨ys.foldl (fun acc p=>acc++("":Str).cps++p.cps) a⟩:Str)=ys.foldl (·++·) ⟨a⟩:=by
  intro ys
  induction ys with
  |nil=>intro a;rfl
  |cons y ys ih=>
   intro a
   rw[List.foldl_cons,List.foldl_cons,ih]
   have e:(⟨a++("":Str).cps++y.cps⟩:Str)=⟨a⟩++y:=ϕq (by
    show(a++("":Str).cps++y.cps).toList=cl (⟨a⟩++y)
    rw[ϖS,Array.toList_append,Array.toList_append]
    have z:("":Str).cps.toList=[]:=by decide +kernel
    rw[z,List.append_nil])
   rw[e]
 cases ys with
 |nil=>rfl
 |cons y ys=>
  show(⟨ys.foldl (fun acc p=>acc++("":Str).cps++p.cps) y.cps⟩:Str)=_
  rw[go]
  unfold catS
  rw[List.foldl_cons,nil_app]
def ϟ6 (s:Scr):Prop:=(∀ m∈s.begins,m.2.length≤100)∧(∀ t∈s.steps,t.2.1.length≤100∧t.2.2.1.length≤100)∧∀m∈s.ends,m.2.length≤100
def GT (H H':Hp):Prop:=∀b xs,Rd H b (.tup xs)→Rd H' b (.tup xs)
theorem GT.trans {H H' H'':Hp} (a:GT H H') (b:GT H' H''):GT H H'':=fun c xs h=>b c xs (a c xs h)
theorem GT.of {H H':Hp} (g:Same H H'):GT H H':=fun b xs h=>by
 rcases h with h|⟨o,h⟩
 ·exact .inl (g _ _ h)
 ·exact .inr ⟨o,g _ _ h⟩
theorem ϕQ {H:Hp}{p:Addr}{o:HO} (h:H p=some o) (n1:∀xs,o≠.tup xs) (n2:∀u xs,o≠.frz u (.tup xs)) (o':HO):GT H (upd H p o'):=fun b xs q=>by
 have hne:b≠p:=by
  rintro rfl
  rcases q with q|⟨u,q⟩
  ·rw[h] at q;exact n1 xs (Option.some.inj q)
  ·rw[h] at q;exact n2 u xs (Option.some.inj q)
 unfold Rd
 rw[ϖq hne]
 exact q
theorem ϱN {H:Hp}{p:Addr}{xs:List V} (h:H p=some (.lst xs)) (o':HO):GT H (upd H p o'):=ϕQ h (fun _ z=>nomatch z) (fun _ _ z=>nomatch z) o'
theorem GT.seqT {K:Frag}{H H':Hp}{a:Addr}{xs:List V} (g:GT H H') (h:SqT K H a xs):SqT K H' a xs:=by
 rcases h with h|h
 ·exact .inl (g _ _ h)
 ·exact .inr h
theorem StV.gt {K:Frag}{H H':Hp}{m:Stp}{v:V} (g:GT H H'):StV K H m v→StV K H' m v:=fun⟨b,e,h⟩=>⟨b,e,g.seqT h⟩
theorem MkV.gt {K:Frag}{H H':Hp}{m:Mk}{v:V} (g:GT H H'):MkV K H m v→MkV K H' m v:=fun⟨b,e,h⟩=>⟨b,e,g.seqT h⟩
structure Bk {κ α:Type} [DecidableEq κ] (R:Hp→α→V→Prop) (key:α→κ) (H0 H:Hp) (d:Addr) (ts:List α) (kvs:List (κ×V)):Prop where
 there:∀k v,valV kvs k=some v→∃l ys,v=.ref l∧H0 l=none∧l≠d∧H l=some (.lst ys)∧Paired (R H) (ts.filter fun t=>decide (key t=k)) ys∧0 < ys.length
 nokey:∀k,valV kvs k=none→ts.filter (fun t=>decide (key t=k))=[]
 inj:∀k k' l,valV kvs k=some (.ref l)→valV kvs k'=some (.ref l)→k=k'
 len:kvs.length≤ts.length
theorem ϕ6 {α:Type} (p:α→Bool) (xs:List α) (x:α):(xs++[x]).filter p=xs.filter p++if p x=true then [x] else []:=by
 rw[List.filter_append]
 congr 1
 by_cases h:p x=true
 ·rw[if_pos h,List.filter_cons_of_pos h];rfl
 ·rw[if_neg h,List.filter_cons_of_neg h];rfl
section
variable {κ α:Type} [DecidableEq κ] {R:Hp→α→V→Prop}{key:α→κ}{H0 H:Hp}{d:Addr}{ts:List α}{kvs:List (κ×V)}
theorem Bk.nil:Bk R key H0 H d [] ([]:List (κ×V)):=⟨fun k v h=>(by cases h),fun _ _=>rfl,fun k k' l h=>(by cases h),Nat.le_refl _⟩
theorem Bk.mono {H':Hp} (mono:∀(H H':Hp) (t:α) (v:V),GT H H'→R H t v→R H' t v) (b:Bk R key H0 H d ts kvs) (g:Same H H'):Bk R key H0 H' d ts kvs:=
 ⟨fun k v h=>let ⟨l,ys,e,h1,h2,h3,h4,h5⟩:=b.there k v h;⟨l,ys,e,h1,h2,g _ _ h3,ϖb (fun _ _=>mono _ _ _ _ (GT.of g)) h4,h5⟩,b.nokey,b.inj,b.len⟩
theorem Bk.put (mono:∀(H H':Hp) (t:α) (v:V),GT H H'→R H t v→R H' t v) (b:Bk R key H0 H d ts kvs) {t:α}{y:V}{l:Addr}{ys:List V} (hv:valV kvs (key t)=some (.ref l)) (hl:H l=some (.lst ys)) (hy:R H t y) :
  Bk R key H0 (upd H l (.lst (ys++[y]))) d (ts++[t]) kvs:=by
 have gr:=ϱN hl (.lst (ys++[y]))
 refine⟨fun k v h=>?_,fun k h=>?_,b.inj,by rw[List.length_append];exact Nat.le_add_right_of_le b.len⟩
 ·obtain⟨l',ys',rfl,h1,h2,h3,h4,h5⟩:=b.there k v h
  rw[ϕ6]
  by_cases hk:key t=k
  ·subst hk
   rw[hv] at h;cases h
   rw[hl] at h3;cases h3
   rw[if_pos (by simp)]
   exact⟨l,ys++[y],rfl,h1,h2,ϖd,ϖt (ϖb (fun _ _=>mono _ _ _ _ gr) h4) (.cons (mono _ _ _ _ gr hy) .nil),by rw[List.length_append];omega⟩
  ·have hne:l'≠l:=fun e=>hk (b.inj _ _ l hv (e▸h))
   rw[if_neg (by simpa using hk),List.append_nil]
   exact⟨l',ys',rfl,h1,h2,by rw[ϖq hne];exact h3,ϖb (fun _ _=>mono _ _ _ _ gr) h4,h5⟩
 ·rw[ϕ6,b.nokey k h]
  by_cases hk:key t=k
  ·subst hk;rw[hv] at h;cases h
  ·rw[if_neg (by simpa using hk)];rfl
theorem Bk.new (mono:∀(H H':Hp) (t:α) (v:V),GT H H'→R H t v→R H' t v) (b:Bk R key H0 H d ts kvs) {t:α}{y:V}{p:Addr}{o od:HO} (hv:valV kvs (key t)=none) (hp0:H0 p=none) (hpd:p≠d) (hd:H d=some od) (n1:∀xs,od≠.tup xs) (n2:∀u xs,od≠.frz u (.tup xs)) (hpn:∀k,valV kvs k≠some (.ref p)) (hp:H p=some (.lst [])) (hy:R H t y) :
  Bk R key H0 (upd (upd H d o) p (.lst [y])) d (ts++[t]) (putK kvs (key t) (.ref p)):=by
 have g1:=ϕQ hd n1 n2 o
 have hp1:upd H d o p=some (.lst []):=by rw[ϖq hpd];exact hp
 have gr:=g1.trans (ϱN hp1 (.lst [y]))
 refine⟨fun k v h=>?_,fun k h=>?_,fun k k' l h h'=>?_,?_⟩
 ·rw[ϕR] at h
  rw[ϕ6]
  by_cases hk:k=key t
  ·subst hk
   rw[if_pos rfl] at h;cases h
   rw[if_pos (by simp),b.nokey _ hv]
   exact⟨p,[y],rfl,hp0,hpd,ϖd,.cons (mono _ _ _ _ gr hy) .nil,Nat.zero_lt_one⟩
  ·rw[if_neg hk] at h
   obtain⟨l',ys',rfl,h1,h2,h3,h4,h5⟩:=b.there k v h
   have hne:l'≠p:=fun e=>hpn k (e▸h)
   rw[if_neg (by simpa using fun e=>hk (Eq.symm e)),List.append_nil]
   exact⟨l',ys',rfl,h1,h2,by rw[ϖq hne,ϖq h2];exact h3,ϖb (fun _ _=>mono _ _ _ _ gr) h4,h5⟩
 ·rw[ϕR] at h
  by_cases hk:k=key t
  ·rw[if_pos hk] at h;cases h
  ·rw[if_neg hk] at h
   rw[ϕ6,b.nokey k h,if_neg (by simpa using fun e=>hk (Eq.symm e))];rfl
 ·rw[ϕR] at h h'
  by_cases hk:k=key t
  ·rw[if_pos hk] at h;cases h
   by_cases hk':k'=key t
   ·rw[hk,hk']
   ·rw[if_neg hk'] at h';exact absurd h' (hpn k')
  ·rw[if_neg hk] at h
   by_cases hk':k'=key t
   ·rw[if_pos hk'] at h';cases h';exact absurd h (hpn k)
   ·rw[if_neg hk'] at h';exact b.inj k k' l h h'
 ·have h1:=ϑP kvs (key t) (.ref p)
  have h2:=b.len
  rw[List.length_append,List.length_singleton];omega
end
def addM {α:Type} [DecidableEq α] (acc:List α) (m:α):List α:=if m∈acc then acc else acc++[m]
def ϕl {α:Type} [DecidableEq α] (xs:List α):List α:=xs.foldl addM []
theorem ϰW {α:Type} [DecidableEq α] (xs:List α) (x:α):ϕl (xs++[x])=addM (ϕl xs) x:=by unfold ϕl;rw[List.foldl_append];rfl
theorem ϕ2 {α:Type} [DecidableEq α] (xs:List α):(ϕl xs).length≤xs.length:=by
 have go:∀(xs acc:List α),(xs.foldl addM acc).length≤acc.length+xs.length:=by
  intro xs
  induction xs with
  |nil=>intro acc;exact Nat.le_refl _
  |cons x xs ih=>
   intro acc
   have h:=ih (addM acc x)
   have:(addM acc x).length≤acc.length+1:=by
    unfold addM;split
    ·omega
    ·rw[List.length_append];exact Nat.le_refl _
   rw[List.foldl_cons,List.length_cons];omega
 have:=go xs []
 unfold ϕl
 simpa using this
theorem ϱt {κ:Type} [DecidableEq κ] (kvs:List (κ×V)) (k:κ) (v:V):(putK kvs k v).map (·.1)=addM (kvs.map (·.1)) k:=by
 have hm:(kvs.any fun kv=>decide (kv.1=k))=true↔k∈kvs.map (·.1):=by
  rw[List.any_eq_true,List.mem_map]
  exact⟨fun⟨x,h1,h2⟩=>⟨x,h1,of_decide_eq_true h2⟩,fun⟨x,h1,h2⟩=>⟨x,h1,decide_eq_true h2⟩⟩
 unfold putK addM
 by_cases h:k∈kvs.map (·.1)
 ·rw[if_pos (hm.mpr h),if_pos h,List.map_map]
  refine List.map_congr_left fun x _=>?_
  show(if x.1=k then _ else _:κ×V).1=x.1
  split
  ·rename_i e;first|exact e.symm|rfl
  ·rfl
 ·rw[if_neg (fun z=>h (hm.mp z)),if_neg h,List.map_append];rfl
theorem ϡ2 {α β:Type} [DecidableEq α] [DecidableEq β] {f:α→β} (inj:∀a b,f a=f b→a=b) (acc:List α) (m:α):(addM acc m).map f=addM (acc.map f) (f m):=by
 have hm:f m∈acc.map f↔m∈acc:=by
  rw[List.mem_map]
  exact⟨fun⟨x,h1,h2⟩=>inj _ _ h2▸h1,fun h=>⟨m,h,rfl⟩⟩
 unfold addM
 by_cases h:m∈acc
 ·rw[if_pos h,if_pos (hm.mpr h)]
 ·rw[if_neg h,if_neg (fun z=>h (hm.mp z)),List.map_append];rfl
def ϖK (n:Int) (t:Stp):Int:=if n=0 then t.1 else t.2.2.2
theorem ϛM {n:Int} (h:n=0∨n=3) (t:Stp):atI [V.int t.1,V.str t.2.1,V.str t.2.2.1,V.int t.2.2.2] n=some (V.int (ϖK n t)):=by
 rcases h with rfl|rfl
 ·exact ϖQ (j:=0) rfl
 ·exact ϖQ (j:=3) rfl
def StL (K:Frag) (H:Hp) (a:Addr) (S:List Stp):Prop:=∃xs,SqL K H a xs∧Paired (StV K H) S xs
def keyP (n:Int) (S:List Stp) (q:Nat):Key:=Sum.inl ((S[q]?).elim 0 (ϖK n))
def qV (q:Nat):V:=.int (q:Int)
def isQ (_:Hp) (q:Nat) (v:V):Prop:=v=.int (q:Int)
def PlD (n:Int) (S:List Stp) (H H':Hp) (v:V):Prop:=∃d kvs,v=.ref d∧H d=none∧H' d=some (.dK kvs)∧Bk isQ (keyP n S) H H' d (List.range S.length) kvs
theorem ϰd (H H':Hp) (q:Nat) (v:V) (_:GT H H') (h:isQ H q v):isQ H' q v:=h
abbrev En:=Int×Nat×Option Nat
def ϖx (T:List En):List Int:=T.map (·.1)
def optN:Option Nat→V
 |none=>.non
 |some q=>.int (q:Int)
def EnV (K:Frag) (H:Hp) (e:En) (kv:Key×V):Prop:=kv.1=Sum.inl e.1∧∃t,kv.2=.ref t∧SqT K H t [.int (e.2.1:Int),optN e.2.2]
def EnOk (M:List Mk) (S:List Stp) (n f:Int) (T:List En) (i:Nat) (e:En):Prop:=
 (e.2.2=none∧∃m,M[e.2.1]?=some m∧m.1=e.1)∨(∃ q t,e.2.2=some q∧S[q]?=some t∧ϖK f t=e.1∧∃j e',j < i∧T[j]?=some e'∧e'.1=ϖK n t∧e'.2.1=e.2.1)
structure TI (M:List Mk) (S:List Stp) (n f:Int) (T:List En):Prop where
 nd:(ϖx T).Nodup
 en:∀i e,T[i]?=some e→EnOk M S n f T i e
theorem ϝF {α:Type}{xs:List α}{x y:α}{i:Nat} (h:(xs++[x])[i]?=some y):(i=xs.length∧y=x)∨xs[i]?=some y:=by
 by_cases hi:i < xs.length
 ·rw[List.getElem?_append_left hi] at h;exact .inr h
 ·rw[List.getElem?_append_right (by omega)] at h
  have:i-xs.length=0:=by
   by_cases z:i-xs.length=0
   ·exact z
   ·rw[List.getElem?_eq_none (by simp;omega)] at h;cases h
  rw[this] at h
  injection h with h
  exact .inl ⟨by omega,h.symm⟩
theorem ϝC {α:Type}{xs:List α}{x y:α}{i:Nat} (h:xs[i]?=some y):(xs++[x])[i]?=some y:=by
 rw[List.getElem?_append_left (List.getElem?_eq_some_iff.mp h).1];exact h
theorem TI.nil {M:List Mk}{S:List Stp}{n f:Int}:TI M S n f []:=⟨by simp[ϖx],fun i e h=>by simp at h⟩
theorem ϕm (T:List En) (e:En):ϖx (T++[e])=ϖx T++[e.1]:=by unfold ϖx;rw[List.map_append];rfl
theorem TI.snoc {M:List Mk}{S:List Stp}{n f:Int}{T:List En}{e:En} (h:TI M S n f T) (hn:e.1∉ϖx T) (he:EnOk M S n f T T.length e):TI M S n f (T++[e]):=by
 have up:∀i d,EnOk M S n f T i d→EnOk M S n f (T++[e]) i d:=fun i d h=>by
  rcases h with h|⟨q,t,h1,h2,h3,j,d',h4,h5,h6⟩
  ·exact .inl h
  ·exact .inr ⟨q,t,h1,h2,h3,j,d',h4,ϝC h5,h6⟩
 refine⟨by rw[ϕm];exact ϑu h.nd hn,fun i d hd=>?_⟩
 rcases ϝF hd with⟨rfl,rfl⟩|hd
 ·exact up _ _ he
 ·exact up _ _ (h.en i d hd)
def DoneT (S:List Stp) (n f:Int) (T:List En) (r:Int):Prop:=∀t∈S,ϖK n t=r→ϖK f t∈ϖx T
theorem DoneT.snoc {S:List Stp}{n f:Int}{T:List En}{r:Int}{e:En} (h:DoneT S n f T r):DoneT S n f (T++[e]) r:=fun t ht hr=>by rw[ϕm];exact List.mem_append_left _ (h t ht hr)
def TrD (K:Frag) (H:Hp) (d:Addr) (T:List En):Prop:=∃kvs,H d=some (.dK kvs)∧Paired (EnV K H) T kvs
def MkL (K:Frag) (H:Hp) (a:Addr) (M:List Mk):Prop:=∃xs,SqL K H a xs∧Paired (MkV K H) M xs
def ϑO (n:Int) (S:List Stp) (r:Int):List Nat:=(List.range S.length).filter fun q=>decide (keyP n S q=Sum.inl r)
def ϱ0 (T:List En) (i:Nat) (m:Mk):List En:=if m.1∈ϖx T then T else T++[(m.1,i,none)]
def fstT:List Mk→Nat→List En→List En
 |[],_,T=>T
 |m::M,i,T=>fstT M (i+1) (ϱ0 T i m)
theorem ϵX:∀(M:List Mk) (m:Mk) (i:Nat) (T:List En),fstT (M++[m]) i T=ϱ0 (fstT M i T) (i+M.length) m
 |[],m,i,T=>rfl
 |x::M,m,i,T=>by
  rw[List.cons_append,fstT,ϵX M m (i+1),fstT,List.length_cons]
  congr 1;omega
theorem ϡX {M:List Mk}{i:Nat}{m:Mk} (hm:M[i]?=some m):fstT (M.take (i+1)) 0 []=ϱ0 (fstT (M.take i) 0 []) i m:=by
 have hi:=(List.getElem?_eq_some_iff.mp hm).1
 rw[ϖz hm,ϵX,List.length_take,Nat.min_eq_left (Nat.le_of_lt hi),Nat.zero_add]
def ϲn (T:List En) (r:Int):Nat:=((T.find? fun e=>e.1 == r).map (·.2.1)).getD 0
theorem ϲv:∀{T:List En}{i:Nat}{e:En}{r:Int},(ϖx T).Nodup→T[i]?=some e→e.1=r→ϲn T r=e.2.1
 |[],i,e,r,_,h,_=>by simp at h
 |d::T,0,e,r,_,h,hr=>by
  injection h with h
  subst h hr
  unfold ϲn
  rw[List.find?_cons_of_pos (by simp)];rfl
 |d::T,i+1,e,r,nd,h,hr=>by
  have nd':d.1∉ϖx T∧(ϖx T).Nodup:=List.nodup_cons.mp nd
  have h':T[i]?=some e:=h
  have hm:e.1∈ϖx T:=List.mem_map.mpr ⟨e,List.mem_of_getElem? h',rfl⟩
  have hn:d.1≠r:=fun z=>nd'.1 (by rw[z,← hr];exact hm)
  have:=ϲv nd'.2 h' hr
  unfold ϲn at this⊢
  rw[List.find?_cons_of_neg (by simpa using hn)];exact this
def vis (S:List Stp) (f:Int) (r:Int) (a:List En×List Int) (q:Nat):List En×List Int:=
 match S[q]? with
 |none=>a
 |some t=>if ϖK f t∈ϖx a.1 then a else (a.1++[(ϖK f t,ϲn a.1 r,some q)],a.2++[ϖK f t])
theorem ϛA {S:List Stp}{f r:Int}{T:List En}{b:List Int}{q:Nat}{t:Stp} (ht:S[q]?=some t) (h:ϖK f t∈ϖx T):vis S f r (T,b) q=(T,b):=by
 unfold vis;rw[ht];exact if_pos h
theorem ϛp {S:List Stp}{f r:Int}{T:List En}{b:List Int}{q k:Nat}{t:Stp} (ht:S[q]?=some t) (h:ϖK f t∉ϖx T) (hk:ϲn T r=k):vis S f r (T,b) q=(T++[(ϖK f t,k,some q)],b++[ϖK f t]):=by
 unfold vis;rw[ht,← hk];exact if_neg h
def lay1 (S:List Stp) (n f:Int) (a:List En×List Int) (r:Int):List En×List Int:=(ϑO n S r).foldl (vis S f r) a
def lay (S:List Stp) (n f:Int) (T:List En) (fr:List Int):List En×List Int:=fr.foldl (lay1 S n f) (T,[])
inductive BfsR (S:List Stp) (n f:Int):List En→List Int→List En→Prop
 |done (T:List En):BfsR S n f T [] T
 |more {T:List En}{fr:List Int}{Z:List En} (h:fr≠[]) (x:BfsR S n f (lay S n f T fr).1 (lay S n f T fr).2 Z):BfsR S n f T fr Z
def ϛ7 (M:List Mk) (S:List Stp) (n f:Int) (Z:List En):Prop:=BfsR S n f (fstT M 0 []) (ϖx (fstT M 0 [])) Z
structure TrOk (M:List Mk) (S:List Stp) (n f R:Int) (T:List En):Prop where
 ti:TI M S n f T
 marks:∀m∈M,m.1∈ϖx T
 clo:∀r∈ϖx T,DoneT S n f T r
 bnd:∀r∈ϖx T,0≤r∧r < R
 first:∀m∈M,∃e∈T,e.1=m.1∧e.2.2=none
 run:ϛ7 M S n f T
def KB (d:Addr) (H H':Hp):Prop:=∀b o,b≠d→H b=some o→H' b=some o
theorem KB.same {d:Addr}{A H H':Hp} (k:KB d H H') (g:Same A H) (hd:A d=none):Same A H':=fun b o q=>k b o (ϖn q hd) (g b o q)
theorem KB.then {d:Addr}{H H' H'':Hp} (k:KB d H H') (g:Same H' H''):KB d H H'':=fun b o n q=>g b o (k b o n q)
theorem KB.here {d:Addr}{H H':Hp}{o:HO} (k:KB d H H'):KB d H (upd H' d o):=fun b u n q=>by rw[ϖq n];exact k b u n q
theorem KB.new {d p:Addr}{H H':Hp}{o:HO} (k:KB d H H') (hp:H p=none):KB d H (upd H' p o):=fun b u n q=>by rw[ϖq (ϖn q hp)];exact k b u n q
theorem ϱ1:∀(N:Nat) (xs:List Int),xs.Nodup→(∀ x∈xs,0≤x∧x < (N:Int))→xs.length≤N
 |0,[],_,_=>Nat.le_refl _
 |0,x::xs,_,h=>by have:=h x (List.mem_cons_self ..);omega
 |N+1,xs,nd,h=>by
  have:=ϱ1 N (xs.filter (fun x=>decide (x≠(N:Int)))) (nd.filter _) (fun x hx=>by
   have hx:=List.mem_filter.mp hx
   have h1:=h x hx.1
   have h2:=of_decide_eq_true hx.2
   omega)
  by_cases c:(N:Int)∈xs
  ·have e:xs.length=(xs.erase (N:Int)).length+1:=by rw[List.length_erase_of_mem c];have:=List.length_pos_of_mem c;omega
   have e2:xs.erase (N:Int)=xs.filter (fun x=>decide (x≠(N:Int))):=by rw[List.Nodup.erase_eq_filter nd];congr 1;funext x;by_cases z:x=(N:Int)<;>simp[z]
   rw[e,e2];omega
  ·have e2:xs.filter (fun x=>decide (x≠(N:Int)))=xs:=List.filter_eq_self.mpr fun x hx=>decide_eq_true (fun z=>c (by rw[← z];exact hx))
   rw[e2] at this;omega
theorem mem_placesOf {n:Int}{S:List Stp}{r:Int}{q:Nat}:q∈ϑO n S r↔∃t,S[q]?=some t∧ϖK n t=r:=by
 unfold ϑO
 rw[List.mem_filter,List.mem_range,decide_eq_true_eq]
 constructor
 ·rintro⟨h1,h2⟩
  refine⟨S[q],List.getElem?_eq_getElem h1,?_⟩
  unfold keyP at h2
  rw[List.getElem?_eq_getElem h1] at h2
  injection h2
 ·rintro⟨t,h1,h2⟩
  refine⟨(List.getElem?_eq_some_iff.mp h1).1,?_⟩
  unfold keyP
  rw[h1,← h2];rfl
theorem ϱb {H:Hp}:∀{qs:List Nat}{ys:List V},Paired (isQ H) qs ys→ys=qs.map qV
 |[],_,h=>by cases h;rfl
 |q::qs,_,h=>by
  cases h with
  |cons h1 h2=>rw[ϱb h2];unfold isQ at h1;rw[h1];rfl
structure OkR (s:Scr):Prop where
 lb:s.begins.length≤999
 ls:s.steps.length≤99999
 le:s.ends.length≤999
 lr:s.rooms≤999
 mb:∀m∈s.begins,0≤m.1∧m.1 < s.rooms
 ms:∀t∈s.steps,0≤t.1∧t.1 < s.rooms∧0≤t.2.2.2∧t.2.2.2 < s.rooms
 me:∀m∈s.ends,0≤m.1∧m.1 < s.rooms
theorem OkR.side {s:Scr} (h:OkR s) {f:Int} (hf:f=0∨f=3):∀t∈s.steps,0≤ϖK f t∧ϖK f t < s.rooms:=fun t ht=>by
 obtain⟨h1,h2,h3,h4⟩:=h.ms t ht
 rcases hf with rfl|rfl
 ·exact⟨h1,h2⟩
 ·exact⟨h3,h4⟩
inductive Rch (M:List Mk) (S:List Stp) (n f:Int):Int→Prop
 |base {m:Mk} (h:m∈M):Rch M S n f m.1
 |step {t:Stp} (h:t∈S) (r:Rch M S n f (ϖK n t)):Rch M S n f (ϖK f t)
open Classical in
open Classical in
def numK:List Int→Nat→List (Key×V)
 |[],_=>[]
 |u::us,k=>(Sum.inl u,.int (k:Int))::numK us (k+1)
inductive TrlR (T:List En) (S:List Stp) (n:Int):Int→List Nat→Prop
 |done {i:Nat}{e:En} (h:T[i]?=some e) (h2:e.2.2=none):TrlR T S n e.1 []
 |more {i:Nat}{e:En}{q:Nat}{t:Stp}{l:List Nat} (h:T[i]?=some e) (h2:e.2.2=some q) (h3:S[q]?=some t) (x:TrlR T S n (ϖK n t) l):TrlR T S n e.1 (q::l)
theorem ϑ4:∀{T:List En}{i j:Nat}{e d:En},(ϖx T).Nodup→T[i]?=some e→T[j]?=some d→e.1=d.1→i=j∧e=d:=fun {T i j e d} nd h k z=>by
 have hi:=(List.getElem?_eq_some_iff.mp h).1
 have a:(ϖx T)[i]?=some e.1:=by unfold ϖx;rw[List.getElem?_map,h];rfl
 have b:(ϖx T)[j]?=some e.1:=by unfold ϖx;rw[List.getElem?_map,k,z];rfl
 have ij:i=j:=(List.getElem?_inj (by unfold ϖx;rw[List.length_map];exact hi) nd).mp (a.trans b.symm)
 subst ij
 rw[h] at k
 injection k with k
 exact⟨rfl,k⟩
abbrev keyR (N r:Int):List Key:=[Sum.inl (r / N),Sum.inl (r % N)]
abbrev tupR (N r:Int):HO:=.tup [V.int (r / N),V.int (r % N)]
theorem ϰ2 {N r r':Int} (h:keyR N r=keyR N r'):r=r':=by
 unfold keyR at h
 injection h with h1 h2
 injection h2 with h2 _
 injection h1 with h1
 injection h2 with h2
 have e1:=Int.emod_add_mul_ediv r N
 have e2:=Int.emod_add_mul_ediv r' N
 rw[h1,h2] at e1
 omega
def RmV (N:Int) (H:Hp) (r:Int) (v:V):Prop:=∃b,v=.ref b∧H b=some (tupR N r)
def MkG (N:Int) (K:Frag) (H:Hp) (m:Mk) (v:V):Prop:=∃b c,∃ys:List V,v=.ref b∧SqT K H b (.ref c::ys)∧H c=some (tupR N m.1)
def StG (N:Int) (K:Frag) (H:Hp) (t:Stp) (v:V):Prop:=∃b c e,∃x y:V,v=.ref b∧SqT K H b [.ref c,x,y,.ref e]∧H c=some (tupR N t.1)∧H e=some (tupR N t.2.2.2)
theorem StG.mono {N:Int}{K:Frag}{H H':Hp}{t:Stp}{v:V} (g:Same H H'):StG N K H t v→StG N K H' t v:=fun⟨b,c,e,x,y,h0,h,h1,h2⟩=>⟨b,c,e,x,y,h0,(Same.grow g).seqT h,g _ _ h1,g _ _ h2⟩
theorem ϵA {N:Int}{H:Hp}{t:Stp}{c e:Addr}{x y:V}{n:Int} (hn:n=0∨n=3) (h1:H c=some (tupR N t.1)) (h2:H e=some (tupR N t.2.2.2)):∃r,atI [V.ref c,x,y,V.ref e] n=some (V.ref r)∧H r=some (tupR N (ϖK n t)):=by
 rcases hn with rfl|rfl
 ·exact⟨c,ϖQ (j:=0) rfl,h1⟩
 ·exact⟨e,ϖQ (j:=3) rfl,h2⟩
def MkLG (N:Int) (K:Frag) (H:Hp) (a:Addr) (M:List Mk):Prop:=∃xs,SqL K H a xs∧Paired (MkG N K H) M xs
def StLG (N:Int) (K:Frag) (H:Hp) (a:Addr) (S:List Stp):Prop:=∃xs,SqL K H a xs∧Paired (StG N K H) S xs
def ϰV (N n:Int) (S:List Stp) (q:Nat):List Key:=keyR N ((S[q]?).elim 0 (ϖK n))
def PlDP (N n:Int) (S:List Stp) (H H':Hp) (v:V):Prop:=∃d kvs,v=.ref d∧H d=none∧H' d=some (.dT kvs)∧Bk isQ (ϰV N n S) H H' d (List.range S.length) kvs
def ϱY (K:Frag):Sp:=fun vs H Q _=>∃a n,vs=[.ref a,.int n]∧(n=0∨n=3)∧((∃ S,StL K H a S∧S.length≤999∧∀v H',Same H H'→PlD n S H H' v→Q v H') ∨
 ∃N S,StLG N K H a S∧S.length≤99999∧∀v H',Same H H'→PlDP N n S H H' v→Q v H')
def EnVP (N:Int) (K:Frag) (H:Hp) (e:En) (kv:List Key×V):Prop:=kv.1=keyR N e.1∧∃t,kv.2=.ref t∧SqT K H t [.int (e.2.1:Int),optN e.2.2]
theorem EnVP.gt {N:Int}{K:Frag}{H H':Hp}{e:En}{kv:List Key×V} (g:GT H H'):EnVP N K H e kv→EnVP N K H' e kv:=fun⟨h1,t,h2,h3⟩=>⟨h1,t,h2,g.seqT h3⟩
def TrDP (N:Int) (K:Frag) (H:Hp) (d:Addr) (T:List En):Prop:=∃kvs,H d=some (.dT kvs)∧Paired (EnVP N K H) T kvs
theorem ϕW {N:Int}{K:Frag}{H:Hp}:∀{T:List En}{kvs:List (List Key×V)}{r:Int},Paired (EnVP N K H) T kvs→(valV kvs (keyR N r)=none↔r∉ϖx T)
 |[],_,r,h=>by cases h;simp[ϖx,ϲ7]
 |e::T,_,r,h=>by
  cases h with
  |@cons _ kv _ kvs h1 h2=>
   have ih:=ϕW (r:=r) h2
   by_cases c:e.1=r
   ·rw[ϑj (by rw[h1.1,c])]
    simp[ϖx,c]
   ·rw[ϑg (by rw[h1.1];exact fun z=>c (ϰ2 z)),ih]
    unfold ϖx
    rw[List.map_cons,List.mem_cons]
    exact⟨fun z y=>y.elim (fun w=>c w.symm) z,fun z y=>z (.inr y)⟩
theorem ϱW {N:Int}{K:Frag}{H:Hp}:∀{T:List En}{kvs:List (List Key×V)}{r:Int},Paired (EnVP N K H) T kvs→r∈ϖx T→∃(i:Nat) (e:En) (t:Addr),T[i]?=some e∧e.1=r∧valV kvs (keyR N r)=some (.ref t)∧SqT K H t [.int (e.2.1:Int),optN e.2.2]
 |[],_,r,h,hr=>by simp[ϖx] at hr
 |e::T,_,r,h,hr=>by
  cases h with
  |@cons _ kv _ kvs h1 h2=>
   by_cases c:e.1=r
   ·obtain⟨k1,t,k2,k3⟩:=h1
    exact⟨0,e,t,rfl,c,by rw[ϑj (by rw[k1,c]),k2],k3⟩
   ·have hr':r∈ϖx T:=by
     unfold ϖx at hr
     rw[List.map_cons,List.mem_cons] at hr
     exact hr.elim (fun z=>absurd z.symm c) id
    obtain⟨i,e',t,k1,k2,k3,k4⟩:=ϱW h2 hr'
    exact⟨i+1,e',t,k1,k2,by rw[ϑg (by rw[h1.1];exact fun z=>c (ϰ2 z))];exact k3,k4⟩
def ϰ0 (K:Frag):Sp:=fun vs H Q _=>∃N am M as_ S n f R,vs=[.ref am,.ref as_,.int n,.int f]∧MkLG N K H am M∧StLG N K H as_ S∧M.length≤999∧S.length≤99999∧(n=0∨n=3)∧(f=0∨f=3)∧R≤999 ∧
 (∀ m∈M,0≤m.1∧m.1 < R)∧(∀ t∈S,0≤ϖK f t∧ϖK f t < R)∧∀d T H',Same H H'→H d=none→TrDP N K H' d T→TrOk M S n f R T→Q (.ref d) H'
theorem ϡO (N n:Int) (S:List Stp) (r:Int):(List.range S.length).filter (fun q=>decide (ϰV N n S q=keyR N r))=ϑO n S r:=by
 unfold ϑO
 refine List.filter_congr fun q _=>decide_eq_decide.mpr ?_
 unfold ϰV keyP
 exact⟨fun h=>by rw[ϰ2 h],fun h=>by injection h with h;rw[h]⟩
theorem ϛP {N n:Int}{S:List Stp}{H0 H:Hp}{pd l0:Addr}{kvs:List (List Key×V)} (bk:Bk isQ (ϰV N n S) H0 H pd (List.range S.length) kvs) (r:Int) (e0:H l0=some (.lst [])) :
  ∃la,(valV kvs (keyR N r)).getD (.ref l0)=.ref la∧H la=some (.lst ((ϑO n S r).map qV))∧(la=l0∨(H0 la=none∧∃k,valV kvs k=some (.ref la))):=by
 rw[← ϡO N]
 cases hv:valV kvs (keyR N r) with
 |none=>
  refine⟨l0,rfl,?_,.inl rfl⟩
  rw[bk.nokey _ hv];exact e0
 |some v=>
  obtain⟨l,ys,rfl,h1,h2,h3,h4,h5⟩:=bk.there _ _ hv
  refine⟨l,rfl,?_,.inr ⟨h1,_,hv⟩⟩
  rw[h3,ϱb h4]
theorem TrDP.put {N:Int}{K:Frag}{H:Hp}{d p:Addr}{T:List En}{kvs:List (List Key×V)}{e:En} (hkd:H d=some (.dT kvs)) (hp:Paired (EnVP N K H) T kvs) (hn:e.1∉ϖx T) (et:H p=some (.tup [.int (e.2.1:Int),optN e.2.2])) :
  TrDP N K (upd H d (.dT (putK kvs (keyR N e.1) (.ref p)))) d (T++[e]):=by
 have gt:GT H (upd H d (.dT (putK kvs (keyR N e.1) (.ref p)))):=ϕQ hkd (fun _ z=>nomatch z) (fun _ _ z=>nomatch z) _
 refine⟨_,ϖd,?_⟩
 have e1:=ϱu (.ref p) ((ϕW hp).mpr hn)
 generalize upd H d (.dT (putK kvs (keyR N e.1) (.ref p)))=H' at gt⊢
 rw[e1]
 exact ϖt (ϖb (fun _ _=>EnVP.gt gt) hp) (.cons ⟨rfl,p,rfl,gt.seqT (SqT.of et)⟩ .nil)
theorem ϟO {N:Int}{K:Frag}{H:Hp}:∀{T:List En}{kvs:List (List Key×V)}{bs:List Addr},Paired (EnVP N K H) T kvs→Paired (fun (kv:List Key×V) b=>H b=some (.tup (kv.1.map kV))) kvs bs→Paired (RmV N H) (ϖx T) (bs.map V.ref)
 |[],_,_,h,g=>by cases h;cases g;exact .nil
 |e::T,_,_,h,g=>by
  cases h with
  |cons h1 h2=>
   cases g with
   |cons g1 g2=>
    rw[h1.1] at g1
    exact .cons ⟨_,rfl,g1⟩ (ϟO h2 g2)
def dRm (N r:Int):D:=.tup [.int (r / N),.int (r % N)]
theorem RmV.rep {N:Int}{K:Frag}{H:Hp}{r:Int}{v:V}:RmV N H r v→Rep K H (dRm N r) v:=fun⟨b,e,h⟩=>by subst e;exact ϲW (SqT.of h) (.cons (ϱG _) (.cons (ϱG _) .nil))
theorem ϡp {N:Int}{K:Frag}{H:Hp}:∀{fr:List Int}{ys:List V},Paired (RmV N H) fr ys→Reps K H (fr.map (dRm N)) ys
 |[],_,h=>by cases h;exact .nil
 |_::_,_,h=>by cases h with|cons h1 h2=>exact .cons h1.rep (ϡp h2)
theorem ϡu (N:Int):∀fr:List Int,ϰF (fr.map (dRm N))≤1
 |[]=>Nat.zero_le _
 |i::fr=>by
  have:=ϡu N fr
  rw[List.map_cons,ϰF]
  have e:deep (dRm N i)=1:=by simp[dRm,deep,ϰF]
  omega
theorem ϛQ (N:Int) (fr:List Int):eqD (.lst (fr.map (dRm N))) (.lst [])=decide (fr=[]):=by
 cases fr with
 |nil=>rfl
 |cons i fr=>rfl
theorem bk_kbP {N n:Int}{S:List Stp}{A H H':Hp}{pd d:Addr}{ts:List Nat}{kvs:List (List Key×V)} (b:Bk isQ (ϰV N n S) A H pd ts kvs) (hd:A d≠none) (k:KB d H H'):Bk isQ (ϰV N n S) A H' pd ts kvs:=
 ⟨fun key v h=>let ⟨l,ys,e,h1,h2,h3,h4,h5⟩:=b.there key v h;⟨l,ys,e,h1,h2,k l _ (fun z=>hd (z▸h1)) h3,ϖb (fun _ _ h=>h) h4,h5⟩,b.nokey,b.inj,b.len⟩
theorem TrDP.gt {N:Int}{K:Frag}{H H':Hp}{d:Addr}{T:List En} (g:GT H H') (e:H' d=H d):TrDP N K H d T→TrDP N K H' d T:=fun⟨kvs,h,p⟩=>⟨kvs,by rw[e];exact h,ϖb (fun _ _=>EnVP.gt g) p⟩
theorem TrDP.mono {N:Int}{K:Frag}{H H':Hp}{d:Addr}{T:List En} (g:Same H H'):TrDP N K H d T→TrDP N K H' d T:=fun⟨kvs,h,p⟩=>⟨kvs,g _ _ h,ϖb (fun _ _=>EnVP.gt (GT.of g)) p⟩
theorem kbT {N:Int}{d b:Addr}{H H':Hp}{r:Int}{kvs:List (List Key×V)} (k:KB d H H') (hd:H d=some (.dT kvs)) (h:H b=some (tupR N r)):H' b=some (tupR N r):=k b _ (fun z=>by rw[z,hd] at h;cases h) h
theorem rmKb {N:Int}{d:Addr}{H H':Hp}{kvs:List (List Key×V)} (k:KB d H H') (hd:H d=some (.dT kvs)) {fr:List Int}{ys:List V} (h:Paired (RmV N H) fr ys):Paired (RmV N H') fr ys:=ϖb (fun _ _ ⟨b,e,h⟩=>⟨b,e,kbT k hd h⟩) h
def ScG (N:Int) (K:Frag) (H:Hp) (s:Scr) (v:V) (pb ps pe:Addr):Prop:=∃a,∃z:V,∃xb xs xe,v=.ref a∧SqT K H a [.str s.signs,z,.ref pb,.ref ps,.ref pe]∧SqL K H pb xb∧SqL K H ps xs∧SqL K H pe xe ∧
 Paired (MkG N K H) s.begins xb∧Paired (StG N K H) s.steps xs∧Paired (MkG N K H) s.ends xe
def ϡR (K:Frag):Sp:=fun vs H Q _=>∃N v s pb ps pe,vs=[v]∧ScG N K H s v pb ps pe∧OkR s∧∀d T H',Same H H'→H d=none→TrDP N K H' d T→TrOk s.begins s.steps 0 3 s.rooms T→Q (.ref d) H'
def ϟg (K:Frag):Sp:=fun vs H Q _=>∃N v s pb ps pe,vs=[v]∧ScG N K H s v pb ps pe∧OkR s∧∀d T H',Same H H'→H d=none→TrDP N K H' d T→TrOk s.ends s.steps 3 0 s.rooms T→Q (.ref d) H'
def numKP (N:Int):List Int→Nat→List (List Key×V)
 |[],_=>[]
 |u::us,k=>(keyR N u,.int (k:Int))::numKP N us (k+1)
def enc (N i j:Int):Int:=j+N*i
theorem ϟF {N i j:Int} (h0:0≤j) (h1:j < N):enc N i j / N=i:=by
 unfold enc
 rw[Int.add_mul_ediv_left _ _ (by omega),Int.ediv_eq_zero_of_lt h0 h1];omega
theorem ϡ0 {N i j:Int} (h0:0≤j) (h1:j < N):enc N i j % N=j:=by
 unfold enc
 rw[Int.add_mul_emod_self_left];exact Int.emod_eq_of_lt h0 h1
theorem ϲT {N R i j:Int} (h0:0≤j) (h1:j < N) (i0:0≤i) (i1:i < R):0≤enc N i j∧enc N i j < R*N:=by
 unfold enc
 have e1:N*i≤N*(R-1):=Int.mul_le_mul_of_nonneg_left (by omega) (by omega)
 have e2:N*(R-1)=R*N-N:=by rw[Int.mul_sub,Int.mul_one,Int.mul_comm]
 have e3:0≤N*i:=Int.mul_nonneg (by omega) i0
 omega
theorem ϲ3 {N i j:Int} (h0:0≤j) (h1:j < N):tupR N (enc N i j)=.tup [V.int i,V.int j]:=by unfold tupR;rw[ϟF h0 h1,ϡ0 h0 h1]
def TS (H H':Hp):Prop:=∀b xs,H b=some (.tup xs)→H' b=some (.tup xs)
theorem ϝN {H:Hp}{p:Addr}{o:HO} (h:H p=some o) (n1:∀xs,o≠.tup xs) (o':HO):TS H (upd H p o'):=fun b xs q=>by
 rw[ϖq (fun z=>by rw[z,h] at q;exact n1 xs (Option.some.inj q))];exact q
def cnt {κ:Type} [DecidableEq κ] (ks:List κ) (k:κ):Nat:=(ks.filter fun x=>decide (x=k)).length
theorem ϰv {κ:Type} [DecidableEq κ] (ks:List κ) (x k:κ):cnt (ks++[x]) k=cnt ks k+if k=x then 1 else 0:=by
 unfold cnt
 rw[List.filter_append,List.length_append]
 by_cases c:k=x
 ·rw[if_pos c,List.filter_cons_of_pos (by simp[c])];rfl
 ·rw[if_neg c,List.filter_cons_of_neg (by simpa using fun z=>c z.symm)];rfl
def twoB {κ:Type} [DecidableEq κ] (ks:List κ) (i:Nat):Bool:=match ks[i]? with
 |some k=>decide (cnt (ks.take i) k < 2)
 |none=>false
def two {κ:Type} [DecidableEq κ] (ks:List κ):List Nat:=(List.range ks.length).filter (twoB ks)
theorem ϝZ {κ:Type} [DecidableEq κ] {ks:List κ}{q:Nat} (h:q∈two ks):q < ks.length:=List.mem_range.mp (List.mem_filter.mp h).1
theorem ϝJ {κ:Type} [DecidableEq κ] (ks:List κ):(two ks).length≤ks.length:=by
 have:=List.length_filter_le (twoB ks) (List.range ks.length)
 rw[List.length_range] at this
 exact this
def KyV (H:Hp) (k:List Key) (v:V):Prop:=∃b,v=.ref b∧H b=some (.tup (k.map kV))
def ϝf (K:Frag):Sp:=fun vs H Q _=>∃p xs,vs=[.ref p]∧SqL K H p xs∧xs.length≤9999 ∧
 ((∃ ks:List Int,xs=ks.map V.int∧∀l H',Same H H'→H l=none→H' l=some (.lst ((two ks).map qV))→Q (.ref l) H') ∨
  (∃ ks:List (List Key),Paired (KyV H) ks xs∧∀l H',Same H H'→H l=none→H' l=some (.lst ((two ks).map qV))→Q (.ref l) H'))
abbrev DM:=Int×(Nat×Nat)×(Str×Str)
abbrev DS:=Int×(Nat×Nat)×(Str×Str)×Int
def DmV (N:Int) (K:Frag) (H:Hp) (d:DM) (v:V):Prop:=∃b c p w,v=.ref b∧SqT K H b [.ref c,.ref p,.ref w]∧H c=some (tupR N d.1)∧SqT K H p [.int (d.2.1.1:Int),.int (d.2.1.2:Int)]∧SqT K H w [.str d.2.2.1,.str d.2.2.2]
def DsV (N:Int) (K:Frag) (H:Hp) (d:DS) (v:V):Prop:=∃b c p w e,v=.ref b∧SqT K H b [.ref c,.ref p,.ref w,.ref e]∧H c=some (tupR N d.1)∧SqT K H p [.int (d.2.1.1:Int),.int (d.2.1.2:Int)]∧SqT K H w [.str d.2.2.1.1,.str d.2.2.1.2]∧H e=some (tupR N d.2.2.2)
theorem DmV.gt {N:Int}{K:Frag}{H H':Hp}{d:DM}{v:V} (g:GT H H') (s:TS H H'):DmV N K H d v→DmV N K H' d v:=fun⟨b,c,p,w,e,h1,h2,h3,h4⟩=>⟨b,c,p,w,e,g.seqT h1,s _ _ h2,g.seqT h3,g.seqT h4⟩
theorem DsV.gt {N:Int}{K:Frag}{H H':Hp}{d:DS}{v:V} (g:GT H H') (s:TS H H'):DsV N K H d v→DsV N K H' d v:=fun⟨b,c,p,w,e,z,h1,h2,h3,h4,h5⟩=>⟨b,c,p,w,e,z,g.seqT h1,s _ _ h2,g.seqT h3,g.seqT h4,s _ _ h5⟩
theorem TS.of {H H':Hp} (g:Same H H'):TS H H':=fun b xs h=>g _ _ h
def mE (d:DM):Mk:=(d.1,"")
def sE (d:DS):Stp:=(d.1,"","",d.2.2.2)
theorem DmV.g {N:Int}{K:Frag}{H:Hp}{d:DM}{v:V}:DmV N K H d v→MkG N K H (mE d) v:=fun⟨b,c,p,w,e,h1,h2,_,_⟩=>⟨b,c,_,e,h1,h2⟩
theorem DsV.g {N:Int}{K:Frag}{H:Hp}{d:DS}{v:V}:DsV N K H d v→StG N K H (sE d) v:=fun⟨b,c,p,w,e,z,h1,h2,_,_,h5⟩=>⟨b,c,e,_,_,z,h1,h2,h5⟩
def DmOk (R:Int) (D:List DM):Prop:=∀d∈D,0≤d.1∧d.1 < R∧d.2.2.1.length≤100∧d.2.2.2.length≤100
def DsOk (R:Int) (D:List DS):Prop:=∀d∈D,0≤d.1∧d.1 < R∧d.2.2.1.1.length≤100∧d.2.2.1.2.length≤100∧0≤d.2.2.2∧d.2.2.2 < R
theorem ϝ1 {κ:Type} [DecidableEq κ] {ks:List κ}{i j:Nat} (h:i≤j) (k:κ):cnt (ks.take i) k≤cnt (ks.take j) k:=by
 have e:ks.take j=ks.take i++(ks.take j).drop i:=by
  have:=List.take_append_drop i (ks.take j)
  rw[List.take_take,Nat.min_eq_left h] at this
  exact this.symm
 rw[e]
 unfold cnt
 rw[List.filter_append,List.length_append]
 omega
theorem ϵm {κ:Type} [DecidableEq κ] (ks:List κ):(two ks).Pairwise (· < ·):=List.Pairwise.filter _ List.pairwise_lt_range
theorem ϛ2 {ks:List Int}{N:Nat} (h:∀k∈ks,0≤k∧k < (N:Int)):(two ks).length≤2*N:=by
 have hq:∀q,q∈two ks→∃k,ks[q]?=some k∧0≤k∧k < (N:Int)∧cnt (ks.take q) k < 2:=fun q hq=>by
  have hm:=(List.mem_filter.mp hq).2
  unfold twoB at hm
  split at hm
  ·rename_i k e
   exact⟨k,e,(h k (List.mem_of_getElem? e)).1,(h k (List.mem_of_getElem? e)).2,of_decide_eq_true hm⟩
  ·cases hm
 have key:=ϱ1 (2*N) ((two ks).map fun q=>(ks[q]?.getD 0)*2+(cnt (ks.take q) (ks[q]?.getD 0):Int)) ?_ ?_
 ·rw[List.length_map] at key;exact key
 ·refine List.pairwise_map.mpr (List.Pairwise.imp_of_mem ?_ (ϵm ks))
  intro i j hi hj hij e
  obtain⟨k1,e1,a1,b1,c1⟩:=hq i hi
  obtain⟨k2,e2,a2,b2,c2⟩:=hq j hj
  rw[e1,e2] at e
  simp only[Option.getD_some] at e
  have ek:k1=k2:=by omega
  subst ek
  have h1:=ϝ1 (ks:=ks) (i:=i+1) (j:=j) hij k1
  rw[ϖz e1,ϰv,if_pos rfl] at h1
  omega
 ·intro x hx
  obtain⟨q,hq',rfl⟩:=List.mem_map.mp hx
  obtain⟨k1,e1,a1,b1,c1⟩:=hq q hq'
  rw[e1]
  simp only[Option.getD_some]
  omega
def mA (M:List Mk) (o:Nat):Mk:=M[o]?.getD (0,"")
def sA (S:List Stp) (o:Nat):Stp:=S[o]?.getD (0,"","",0)
theorem ϲ9 {M:List Mk}{o:Nat} (h:o < M.length):M[o]=mA M o:=by unfold mA;rw[List.getElem?_eq_getElem h];rfl
theorem ϱF {S:List Stp}{o:Nat} (h:o < S.length):S[o]=sA S o:=by unfold sA;rw[List.getElem?_eq_getElem h];rfl
def dmk (N:Int) (M:List Mk) (o o2:Nat):DM:=(enc N (mA M o).1 (mA M o2).1,(o,o2),((mA M o).2,(mA M o2).2))
def twM (M:List Mk):List Nat:=two (M.map (·.1))
def dmL (N:Int) (M:List Mk):List DM:=(twM M).flatMap fun o=>(twM M).map (dmk N M o)
theorem ϕ9 {M:List Mk}{q:Nat} (h:q∈twM M):q < M.length:=by have:=ϝZ h;rw[List.length_map] at this;exact this
theorem ϲN {α β:Type}{xs:List α}{f:α→List β}{i:Nat}{x:α} (h:xs[i]?=some x):(xs.take (i+1)).flatMap f=(xs.take i).flatMap f++f x:=by
 rw[ϖz h,List.flatMap_append,List.flatMap_singleton]
theorem map_take {α β:Type}{xs:List α}{f:α→β}{i:Nat}{x:α} (h:xs[i]?=some x):(xs.take (i+1)).map f=(xs.take i).map f++[f x]:=by
 rw[ϖz h,List.map_append];rfl
theorem ϟo {α β:Type}{f:α→List β}{n:Nat}:∀{xs:List α},(∀ x∈xs,(f x).length≤n)→(xs.flatMap f).length≤n*xs.length
 |[],_=>Nat.zero_le _
 |x::xs,h=>by
  have h1:=h x (List.mem_cons_self ..)
  have h2:=ϟo (f:=f) (n:=n) (xs:=xs) fun y hy=>h y (List.mem_cons_of_mem _ hy)
  rw[List.flatMap_cons,List.length_append,List.length_cons,Nat.mul_succ];omega
theorem ϝT {N:Int}{M:List Mk} (mb:∀m∈M,0≤m.1∧m.1 < N∧m.2.length≤100):DmOk (N*N) (dmL N M):=fun d hd=>by
 unfold dmL at hd
 obtain⟨o,ho,hd⟩:=List.mem_flatMap.mp hd
 obtain⟨o2,ho2,rfl⟩:=List.mem_map.mp hd
 have h1:=mb _ (List.getElem_mem (ϕ9 ho))
 have h2:=mb _ (List.getElem_mem (ϕ9 ho2))
 rw[ϲ9] at h1 h2
 have:=ϲT (N:=N) (R:=N) h2.1 h2.2.1 h1.1 h1.2.1
 exact⟨this.1,this.2,h1.2.2,h2.2.2⟩
theorem ϟB {N:Int}{M:List Mk} (h8:N≤8) (mb:∀m∈M,0≤m.1∧m.1 < N∧m.2.length≤100):(twM M).length≤16:=by
 have:=ϛ2 (ks:=M.map (·.1)) (N:=N.toNat) (fun k hk=>by
  obtain⟨m,hm,rfl⟩:=List.mem_map.mp hk
  have:=mb m hm
  omega)
 unfold twM
 omega
theorem ϟw {N:Int}{M:List Mk} (h8:N≤8) (mb:∀m∈M,0≤m.1∧m.1 < N∧m.2.length≤100):(dmL N M).length≤256:=by
 have h:=ϟB h8 mb
 have:=ϟo (f:=fun o=>(twM M).map (dmk N M o)) (n:=16) (xs:=twM M) (fun x _=>by rw[List.length_map];exact h)
 unfold dmL
 omega
def spDM (K:Frag):Sp:=fun vs H Q _=>∃N am M,vs=[.ref am]∧0 < N∧N≤8∧MkL K H am M∧M.length≤999∧(∀ m∈M,0≤m.1∧m.1 < N∧m.2.length≤100)∧∀l H',Same H H'→H l=none→(∃ xs,H' l=some (.lst xs)∧Paired (DmV N K H') (dmL N M) xs)→Q (.ref l) H'
def ϕu (t:Stp):List Key:=[Sum.inl t.1,Sum.inr t.2.1,Sum.inl t.2.2.2]
def twS (S:List Stp):List Nat:=two (S.map ϕu)
theorem ϰm {S:List Stp}{q:Nat} (h:q∈twS S):q < S.length:=by have:=ϝZ h;rw[List.length_map] at this;exact this
def sgK (S:List Stp) (q:Nat):Key:=Sum.inr (sA S q).2.1
open Classical in
noncomputable def sgs (S:List Stp) (l:List Nat):List Key:=l.foldl (fun acc o=>if sgK S o∈acc then acc else acc++[sgK S o]) []
open Classical in
theorem ϰ3 (S:List Stp) (l:List Nat) (o:Nat):sgs S (l++[o])=if sgK S o∈sgs S l then sgs S l else sgs S l++[sgK S o]:=by
 unfold sgs;rw[List.foldl_append];rfl
theorem Bk.base {κ α:Type} [DecidableEq κ] {R:Hp→α→V→Prop}{key:α→κ}{H0 H0' H:Hp}{d:Addr}{ts:List α}{kvs:List (κ×V)} (b:Bk R key H0 H d ts kvs) (g:∀l,H0 l=none→H0' l=none):Bk R key H0' H d ts kvs:=
 ⟨fun k v h=>let ⟨l,ys,e,h1,h2,h3⟩:=b.there k v h;⟨l,ys,e,g l h1,h2,h3⟩,b.nokey,b.inj,b.len⟩
theorem val_keys {κ:Type} [DecidableEq κ] {k:κ}:∀{kvs:List (κ×V)},valV kvs k=none↔k∉kvs.map (·.1)
 |[]=>by simp[ϲ7]
 |p::r=>by
  by_cases c:p.1=k
  ·rw[ϑj c];simp[c]
  ·rw[ϑg c,val_keys (kvs:=r),List.map_cons,List.mem_cons]
   exact⟨fun z y=>y.elim (fun w=>c w.symm) z,fun z y=>z (.inr y)⟩
def spPS (K:Frag):Sp:=fun vs H Q _=>∃as_ S,vs=[.ref as_]∧StL K H as_ S∧S.length≤9999∧∀d H' kvs,Same H H'→H d=none→H' d=some (.dK kvs)→Bk isQ (sgK S) H H' d (twS S) kvs→kvs.map (·.1)=sgs S (twS S)→Q (.ref d) H'
open Classical in
theorem ϝ4 (S:List Stp):∀l:List Nat,(sgs S l).Nodup:=by
 have:∀(n:Nat) (l:List Nat),l.length=n→(sgs S l).Nodup:=by
  intro n
  induction n with
  |zero=>intro l h;rw[List.length_eq_zero_iff.mp h];exact List.nodup_nil
  |succ n ih=>
   intro l h
   have hne:l≠[]:=fun z=>by rw[z] at h;cases h
   rw[← List.dropLast_concat_getLast hne,ϰ3]
   have hd:=ih l.dropLast (by rw[List.length_dropLast,h];rfl)
   split
   ·exact hd
   ·rename_i c
    exact List.nodup_append.mpr ⟨hd,List.pairwise_singleton ..,fun a ha b hb e=>c (by rw[List.mem_singleton] at hb;rw[← hb,← e];exact ha)⟩
 exact fun l=>this _ l rfl
theorem ϝ0 {κ:Type} [DecidableEq κ]:∀{kvs:List (κ×V)}{kv:κ×V},(kvs.map (·.1)).Nodup→kv∈kvs→valV kvs kv.1=some kv.2
 |p::r,kv,nd,h=>by
  rw[List.map_cons,List.nodup_cons] at nd
  rcases List.mem_cons.mp h with rfl|h
  ·exact ϑj rfl
  ·rw[ϑg (fun z=>nd.1 (by rw[z];exact List.mem_map_of_mem h))]
   exact ϝ0 nd.2 h
def gr (S:List Stp) (k:Key):List Nat:=(twS S).filter fun q=>decide (sgK S q=k)
def dsk (N:Int) (S:List Stp) (o o2:Nat):DS:=(enc N (sA S o).1 (sA S o2).1,(o,o2),((sA S o).2.2.1,(sA S o2).2.2.1),enc N (sA S o).2.2.2 (sA S o2).2.2.2)
def dsG (N:Int) (S:List Stp) (ns:List Nat):List DS:=ns.flatMap fun o=>ns.map (dsk N S o)
noncomputable def dsL (N:Int) (S:List Stp):List DS:=(sgs S (twS S)).flatMap fun k=>dsG N S (gr S k)
theorem gr_lt {S:List Stp}{k:Key}{q:Nat} (h:q∈gr S k):q < S.length:=ϰm (List.mem_filter.mp h).1
theorem twS_le (S:List Stp):(twS S).length≤S.length:=by have:=ϝJ (S.map ϕu);rw[List.length_map] at this;exact this
theorem ϛ0 (N:Int) (S:List Stp) (ns:List Nat):(dsG N S ns).length=ns.length*ns.length:=by
 unfold dsG
 have:∀(l:List Nat),(l.flatMap fun o=>ns.map (dsk N S o)).length=ns.length*l.length:=by
  intro l
  induction l with
  |nil=>rfl
  |cons o l ih=>rw[List.flatMap_cons,List.length_append,List.length_map,ih,List.length_cons,Nat.mul_succ];omega
 exact this ns
def SgL (S:List Stp):Prop:=∃g:Str,g.length≤5∧∀t∈S,∃c∈cl g,t.2.1=⟨#[c]⟩
theorem ϟ1 {α:Type}:∀{xs ys:List α},xs.Nodup→(∀ x∈xs,x∈ys)→xs.length≤ys.length
 |[],_,_,_=>Nat.zero_le _
 |x::xs,ys,nd,h=>by
  rw[List.nodup_cons] at nd
  obtain⟨l,r,rfl⟩:=List.append_of_mem (h x (List.mem_cons_self ..))
  have:=ϟ1 (xs:=xs) (ys:=l++r) nd.2 fun y hy=>by
   have:=h y (List.mem_cons_of_mem _ hy)
   rcases List.mem_append.mp this with z|z
   ·exact List.mem_append_left _ z
   ·rcases List.mem_cons.mp z with z|z
    ·exact absurd (z▸hy) nd.1
    ·exact List.mem_append_right _ z
  rw[List.length_append] at this
  rw[List.length_cons,List.length_append,List.length_cons]
  omega
theorem ϛB (S:List Stp):∀(l:List Nat) (k:Key),k∈sgs S l→∃o∈l,k=sgK S o:=by
 have key:∀(n:Nat) (l:List Nat),l.length=n→∀k,k∈sgs S l→∃o∈l,k=sgK S o:=by
  intro n
  induction n with
  |zero=>intro l h k hk;rw[List.length_eq_zero_iff.mp h] at hk;exact absurd hk List.not_mem_nil
  |succ n ih=>
   intro l h k hk
   have hne:l≠[]:=fun z=>by rw[z] at h;cases h
   rw[← List.dropLast_concat_getLast hne] at hk⊢
   rw[ϰ3] at hk
   have hd:=ih l.dropLast (by rw[List.length_dropLast,h];rfl)
   split at hk
   ·obtain⟨o,h1,h2⟩:=hd k hk
    exact⟨o,List.mem_append_left _ h1,h2⟩
   ·rcases List.mem_append.mp hk with hk|hk
    ·obtain⟨o,h1,h2⟩:=hd k hk
     exact⟨o,List.mem_append_left _ h1,h2⟩
    ·exact⟨_,List.mem_append_right _ (List.mem_singleton.mpr rfl),List.mem_singleton.mp hk⟩
 exact fun l=>key _ l rfl
theorem sgs_5 {S:List Stp} (h:SgL S):(sgs S (twS S)).length≤5:=by
 obtain⟨g,hg,hs⟩:=h
 have:=ϟ1 (ys:=(cl g).map fun c=>(Sum.inr ⟨#[c]⟩:Key)) (ϝ4 S (twS S)) fun k hk=>by
  obtain⟨o,ho,rfl⟩:=ϛB S _ k hk
  have hm:sA S o∈S:=by
   have:=ϰm ho
   have e:S[o]?=some (sA S o):=by rw[List.getElem?_eq_getElem this,ϱF this]
   exact List.mem_of_getElem? e
  obtain⟨c,hc,e⟩:=hs _ hm
  exact List.mem_map.mpr ⟨c,hc,by unfold sgK;rw[e]⟩
 rw[List.length_map,ϖR] at this
 omega
theorem ϛb {N:Int} (h8:N≤8) {S:List Stp} (sb:∀t∈S,0≤t.1∧t.1 < N∧t.2.2.1.length≤100∧0≤t.2.2.2∧t.2.2.2 < N) (k:Key):(gr S k).length≤128:=by
 have hq:∀q,q∈gr S k→∃t,S[q]?=some t∧sA S q=t∧Sum.inr t.2.1=k∧0≤t.1∧t.1 < 8∧0≤t.2.2.2∧t.2.2.2 < 8∧cnt ((S.map ϕu).take q) (ϕu t) < 2:=fun q hq=>by
  obtain⟨h1,h2⟩:=List.mem_filter.mp hq
  have hl:=ϰm h1
  have e:S[q]?=some (sA S q):=by rw[List.getElem?_eq_getElem hl,ϱF hl]
  have b:=sb _ (List.mem_of_getElem? e)
  have hm:=(List.mem_filter.mp h1).2
  unfold twoB at hm
  rw[List.getElem?_map,e] at hm
  exact⟨_,e,rfl,of_decide_eq_true h2,b.1,by omega,b.2.2.2.1,by omega,of_decide_eq_true hm⟩
 have key:=ϱ1 128 ((gr S k).map fun q=>((sA S q).1*8+(sA S q).2.2.2)*2+(cnt ((S.map ϕu).take q) (ϕu (sA S q)):Int)) ?_ ?_
 ·rw[List.length_map] at key;exact key
 ·have hs:(gr S k).Pairwise (· < ·):=List.Pairwise.filter _ (ϵm _)
  refine List.pairwise_map.mpr (List.Pairwise.imp_of_mem ?_ hs)
  intro i j hi hj hij e
  obtain⟨t1,e1,f1,k1,a1,b1,c1,d1,n1⟩:=hq i hi
  obtain⟨t2,e2,f2,k2,a2,b2,c2,d2,n2⟩:=hq j hj
  rw[f1,f2] at e
  have q1:t1.1=t2.1:=by omega
  have q2:t1.2.2.2=t2.2.2.2:=by omega
  have q3:t1.2.1=t2.2.1:=by have:=k1.trans k2.symm;injection this
  have qk:ϕu t1=ϕu t2:=by unfold ϕu;rw[q1,q2,q3]
  have g1:(S.map ϕu)[i]?=some (ϕu t2):=by rw[List.getElem?_map,e1,← qk];rfl
  have h1:=ϝ1 (ks:=S.map ϕu) (i:=i+1) (j:=j) hij (ϕu t2)
  rw[ϖz g1,ϰv,if_pos rfl] at h1
  rw[qk] at e
  omega
 ·intro x hx
  obtain⟨q,hq',rfl⟩:=List.mem_map.mp hx
  obtain⟨t1,e1,f1,k1,a1,b1,c1,d1,n1⟩:=hq q hq'
  rw[f1]
  omega
theorem ϡe {N:Int} (h8:N≤8) {S:List Stp} (hg:SgL S) (sb:∀t∈S,0≤t.1∧t.1 < N∧t.2.2.1.length≤100∧0≤t.2.2.2∧t.2.2.2 < N) (i:Nat):(((sgs S (twS S)).take i).flatMap fun k=>dsG N S (gr S k)).length≤90000:=by
 have h1:=ϟo (f:=fun k=>dsG N S (gr S k)) (n:=16384) (xs:=(sgs S (twS S)).take i) (fun k _=>by
  rw[ϛ0]
  have:=ϛb h8 sb k
  exact Nat.mul_le_mul this this)
 have h2:=sgs_5 hg
 rw[List.length_take] at h1
 have h3:16384*min i (sgs S (twS S)).length≤16384*5:=Nat.mul_le_mul_left _ (by omega)
 omega
theorem ϛ8 {N:Int} (h8:N≤8) {S:List Stp} (hg:SgL S) (sb:∀t∈S,0≤t.1∧t.1 < N∧t.2.2.1.length≤100∧0≤t.2.2.2∧t.2.2.2 < N):(dsL N S).length≤90000:=by
 have:=ϡe h8 hg sb (sgs S (twS S)).length
 rw[List.take_length] at this
 exact this
theorem ϟP {N:Int}{S:List Stp}{d:DS} (h:d∈dsL N S):∃o o2,o∈twS S∧o2∈twS S∧sgK S o=sgK S o2∧d=dsk N S o o2:=by
 unfold dsL dsG at h
 obtain⟨k,_,h⟩:=List.mem_flatMap.mp h
 obtain⟨o,ho,h⟩:=List.mem_flatMap.mp h
 obtain⟨o2,ho2,rfl⟩:=List.mem_map.mp h
 have a:=List.mem_filter.mp ho
 have b:=List.mem_filter.mp ho2
 exact⟨o,o2,a.1,b.1,(of_decide_eq_true a.2).trans (of_decide_eq_true b.2).symm,rfl⟩
theorem dsL_ok {N:Int}{S:List Stp} (sb:∀t∈S,0≤t.1∧t.1 < N∧t.2.2.1.length≤100∧0≤t.2.2.2∧t.2.2.2 < N):DsOk (N*N) (dsL N S):=fun d hd=>by
 obtain⟨o,o2,ho,ho2,_,rfl⟩:=ϟP hd
 have m1:=sb _ (List.getElem_mem (ϰm ho))
 have m2:=sb _ (List.getElem_mem (ϰm ho2))
 rw[ϱF] at m1 m2
 have h1:=ϲT (N:=N) (R:=N) m2.1 m2.2.1 m1.1 m1.2.1
 have h2:=ϲT (N:=N) (R:=N) m2.2.2.2.1 m2.2.2.2.2 m1.2.2.2.1 m1.2.2.2.2
 exact⟨h1.1,h1.2,m1.2.2.1,m2.2.2.1,h2.1,h2.2⟩
def PlS (S:List Stp) (H0 H:Hp) (d:Addr) (kv:Key×V):Prop:=∃l,kv.2=.ref l∧l≠d∧H0 l=none∧H l=some (.lst ((gr S kv.1).map qV))
theorem PlS.same {S:List Stp}{H0 H H':Hp}{d:Addr}{kv:Key×V} (g:Same H H'):PlS S H0 H d kv→PlS S H0 H' d kv:=fun⟨l,e,e1,e2,e3⟩=>⟨l,e,e1,e2,g _ _ e3⟩
theorem PlS.oth {S:List Stp}{H0 H:Hp}{d a:Addr}{o:HO}{kv:Key×V} (ha:∀l xs,H l=some (.lst xs)→H0 l=none→l≠d→l≠a):PlS S H0 H d kv→PlS S H0 (L2.upd H a o) d kv:=fun⟨l,e,e1,e2,e3⟩=>⟨l,e,e1,e2,(ϖq (ha _ _ e3 e2 e1)).trans e3⟩
theorem pls_of {S:List Stp}{H0 H:Hp}{d:Addr}{kvs:List (Key×V)} (bk:Bk isQ (sgK S) H0 H d (twS S) kvs) (hks:kvs.map (·.1)=sgs S (twS S)):∀kv∈kvs,PlS S H0 H d kv:=fun kv h=>by
 have hv:=ϝ0 (by rw[hks];exact ϝ4 S _) h
 obtain⟨l,ys,e,h1,h2,h3,h4,_⟩:=bk.there _ _ hv
 exact⟨l,e,h2,h1,by rw[h3,ϱb h4];rfl⟩
def spDS (K:Frag):Sp:=fun vs H Q _=>∃N as_ S,vs=[.ref as_]∧0 < N∧N≤8∧SgL S∧StL K H as_ S∧S.length≤9999∧(∀ t∈S,0≤t.1∧t.1 < N∧t.2.2.1.length≤100∧0≤t.2.2.2∧t.2.2.2 < N)∧∀l H',Same H H'→H l=none→(∃ xs,H' l=some (.lst xs)∧Paired (DsV N K H') (dsL N S) xs)→Q (.ref l) H'
structure DbOk (R:Int) (B:List DM) (S:List DS) (E:List DM):Prop where
 b:DmOk R B
 s:DsOk R S
 e:DmOk R E
 lb:B.length≤900
 ls:S.length≤99999
 le:E.length≤900
 r0:0≤R
 r9:R≤99
def dbS (g:Str) (R:Int) (B:List DM) (S:List DS) (E:List DM):Scr:=⟨g,R,B.map mE,S.map sE,E.map mE⟩
def DbV (N:Int) (K:Frag) (H:Hp) (g:Str) (B:List DM) (S:List DS) (E:List DM) (v:V) (pb ps pe:Addr):Prop:=∃a,∃z:V,∃xb xs xe,v=.ref a∧SqT K H a [.str g,z,.ref pb,.ref ps,.ref pe]∧SqL K H pb xb∧SqL K H ps xs∧SqL K H pe xe∧Paired (DmV N K H) B xb∧Paired (DsV N K H) S xs∧Paired (DmV N K H) E xe
theorem DbV.mono {N:Int}{K:Frag}{H H':Hp}{g:Str}{B:List DM}{S:List DS}{E:List DM}{v:V}{pb ps pe:Addr} (s:Same H H'):DbV N K H g B S E v pb ps pe→DbV N K H' g B S E v pb ps pe
 |⟨a,z,xb,xs,xe,e,h1,h2,h3,h4,h5,h6,h7⟩=>⟨a,z,xb,xs,xe,e,Same.seqT s h1,s.seq h2,s.seq h3,s.seq h4,ϖb (fun _ _=>DmV.gt (GT.of s) (TS.of s)) h5,ϖb (fun _ _=>DsV.gt (GT.of s) (TS.of s)) h6,ϖb (fun _ _=>DmV.gt (GT.of s) (TS.of s)) h7⟩
theorem ϑS {α β:Type}{F:α→V→Prop}{G:β→V→Prop}{f:α→β} (h:∀a v,F a v→G (f a) v):∀{xs:List α}{ys:List V},Paired F xs ys→Paired G (xs.map f) ys
 |[],_,e=>by cases e;exact .nil
 |_::_,_,e=>by cases e with|cons e1 e2=>exact .cons (h _ _ e1) (ϑS h e2)
theorem DbV.g {N:Int}{K:Frag}{H:Hp}{g:Str}{R:Int}{B:List DM}{S:List DS}{E:List DM}{v:V}{pb ps pe:Addr}:DbV N K H g B S E v pb ps pe→ScG N K H (dbS g R B S E) v pb ps pe
 |⟨a,z,xb,xs,xe,e,h1,h2,h3,h4,h5,h6,h7⟩=>⟨a,z,xb,xs,xe,e,h1,h2,h3,h4,ϑS (f:=mE) (fun _ _=>DmV.g) h5,ϑS (f:=sE) (fun _ _=>DsV.g) h6,ϑS (f:=mE) (fun _ _=>DmV.g) h7⟩
theorem DbOk.r {R:Int}{B:List DM}{S:List DS}{E:List DM}{g:Str} (h:DbOk R B S E):OkR (dbS g R B S E):=by
 refine⟨by show(B.map mE).length≤999;rw[List.length_map];have:=h.lb;omega,by show(S.map sE).length≤99999;rw[List.length_map];exact h.ls,by show(E.map mE).length≤999;rw[List.length_map];have:=h.le;omega,by show R≤999;have:=h.r9;omega,fun m hm=>?_,fun t ht=>?_,fun m hm=>?_⟩
 ·obtain⟨d,hd,rfl⟩:=List.mem_map.mp (show m∈B.map mE from hm)
  exact⟨(h.b d hd).1,(h.b d hd).2.1⟩
 ·obtain⟨d,hd,rfl⟩:=List.mem_map.mp (show t∈S.map sE from ht)
  have:=h.s d hd
  exact⟨this.1,this.2.1,this.2.2.2.2.1,this.2.2.2.2.2⟩
 ·obtain⟨d,hd,rfl⟩:=List.mem_map.mp (show m∈E.map mE from hm)
  exact⟨(h.e d hd).1,(h.e d hd).2.1⟩
def spB1 (K:Frag):Sp:=fun vs H Q _=>∃p q a b c d,vs=[.ref p,.ref q]∧SqT K H p [.str a,.str b]∧SqT K H q [.str c,.str d]∧a.length+c.length≤90000∧b.length+d.length≤90000∧∀t H',Same H H'→H' t=some (.tup [.str (a++c),.str (b++d)])→Q (.ref t) H'
def nOf (s:Scr):Int:=if s.rooms < 1 then 1 else s.rooms
def dB (s:Scr):List DM:=dmL (nOf s) s.begins
noncomputable def dS (s:Scr):List DS:=dsL (nOf s) s.steps
def dE (s:Scr):List DM:=dmL (nOf s) s.ends
def spDb (K:Frag):Sp:=fun vs H Q _=>∃v s pb ps pe,vs=[v]∧ScV K H s v pb ps pe∧OkR s∧ϟ6 s∧s.begins.length≤999∧s.steps.length≤9999∧s.ends.length≤999∧SgL s.steps∧0≤s.rooms∧s.rooms≤8∧∀v' H' pb' ps' pe',Same H H'→DbV (nOf s) K H' s.signs (dB s) (dS s) (dE s) v' pb' ps' pe'→DbOk (nOf s*nOf s) (dB s) (dS s) (dE s)→Q v' H'
def spAp (K:Frag):Sp:=fun vs H Q _=>∃p q a b c d,vs=[.ref p,.ref q]∧SqT K H p [.str a,.str b]∧SqT K H q [.str c,.str d]∧a.length+c.length≤90000∧b.length+d.length≤90000∧Q (.bl (!decide (a++c=b++d))) H
inductive WdA (B:List DM) (S:List DS) (T:List En):Int→Str→Str→Prop
 |stop {i:Nat}{e:En}{b:DM} (h:T[i]?=some e) (h2:e.2.2=none) (h3:B[e.2.1]?=some b):WdA B S T e.1 b.2.2.1 b.2.2.2
 |step {i:Nat}{e:En}{q:Nat}{d:DS}{a c:Str} (h:T[i]?=some e) (h2:e.2.2=some q) (h3:S[q]?=some d) (x:WdA B S T d.1 a c):WdA B S T e.1 (a++d.2.2.1.1) (c++d.2.2.1.2)
inductive WdB (B:List DM) (S:List DS) (T:List En):Int→Str→Str→Prop
 |stop {i:Nat}{e:En}{b:DM} (h:T[i]?=some e) (h2:e.2.2=none) (h3:B[e.2.1]?=some b):WdB B S T e.1 b.2.2.1 b.2.2.2
 |step {i:Nat}{e:En}{q:Nat}{d:DS}{a c:Str} (h:T[i]?=some e) (h2:e.2.2=some q) (h3:S[q]?=some d) (x:WdB B S T d.2.2.2 a c):WdB B S T e.1 (d.2.2.1.1++a) (d.2.2.1.2++c)
theorem WdA.det {B:List DM}{S:List DS}{T:List En} (nd:(ϖx T).Nodup) {r:Int}{a c:Str} (h:WdA B S T r a c):∀{a' c':Str},WdA B S T r a' c'→a=a'∧c=c':=by
 induction h with
 |@stop i e b h h2 h3=>
  intro a' c' k
  generalize hr:e.1=r at k
  cases k with
  |@stop j e' b' k k2 k3=>
   obtain⟨_,rfl⟩:=ϑ4 nd h k hr
   rw[h3] at k3
   injection k3 with k3
   rw[k3];exact⟨rfl,rfl⟩
  |@step j e' q d a c k k2 k3 x=>
   obtain⟨_,rfl⟩:=ϑ4 nd h k hr
   rw[h2] at k2;cases k2
 |@step i e q d a c h h2 h3 x ih=>
  intro a' c' k
  generalize hr:e.1=r at k
  cases k with
  |@stop j e' b' k k2 k3=>
   obtain⟨_,rfl⟩:=ϑ4 nd h k hr
   rw[h2] at k2;cases k2
  |@step j e' q' d' a' c' k k2 k3 y=>
   obtain⟨_,rfl⟩:=ϑ4 nd h k hr
   rw[h2] at k2
   injection k2 with k2
   subst k2
   rw[h3] at k3
   injection k3 with k3
   subst k3
   obtain⟨e1,e2⟩:=ih y
   rw[e1,e2];exact⟨rfl,rfl⟩
theorem WdB.det {B:List DM}{S:List DS}{T:List En} (nd:(ϖx T).Nodup) {r:Int}{a c:Str} (h:WdB B S T r a c):∀{a' c':Str},WdB B S T r a' c'→a=a'∧c=c':=by
 induction h with
 |@stop i e b h h2 h3=>
  intro a' c' k
  generalize hr:e.1=r at k
  cases k with
  |@stop j e' b' k k2 k3=>
   obtain⟨_,rfl⟩:=ϑ4 nd h k hr
   rw[h3] at k3
   injection k3 with k3
   rw[k3];exact⟨rfl,rfl⟩
  |@step j e' q d a c k k2 k3 x=>
   obtain⟨_,rfl⟩:=ϑ4 nd h k hr
   rw[h2] at k2;cases k2
 |@step i e q d a c h h2 h3 x ih=>
  intro a' c' k
  generalize hr:e.1=r at k
  cases k with
  |@stop j e' b' k k2 k3=>
   obtain⟨_,rfl⟩:=ϑ4 nd h k hr
   rw[h2] at k2;cases k2
  |@step j e' q' d' a' c' k k2 k3 y=>
   obtain⟨_,rfl⟩:=ϑ4 nd h k hr
   rw[h2] at k2
   injection k2 with k2
   subst k2
   rw[h3] at k3
   injection k3 with k3
   subst k3
   obtain⟨e1,e2⟩:=ih y
   rw[e1,e2];exact⟨rfl,rfl⟩
theorem WdA.key {B:List DM}{S:List DS}{T:List En}{r:Int}{a c:Str} (h:WdA B S T r a c):r∈ϖx T:=by
 cases h with
 |stop h _ _=>exact List.mem_map_of_mem (List.mem_of_getElem? h)
 |step h _ _ _=>exact List.mem_map_of_mem (List.mem_of_getElem? h)
theorem WdB.key {B:List DM}{S:List DS}{T:List En}{r:Int}{a c:Str} (h:WdB B S T r a c):r∈ϖx T:=by
 cases h with
 |stop h _ _=>exact List.mem_map_of_mem (List.mem_of_getElem? h)
 |step h _ _ _=>exact List.mem_map_of_mem (List.mem_of_getElem? h)
def WpV (N:Int) (K:Frag) (H:Hp) (P:Int→Str→Str→Prop) (L:Nat) (e:En) (kv:List Key×V):Prop:=kv.1=keyR N e.1∧∃t a b,kv.2=.ref t∧SqT K H t [.str a,.str b]∧a.length≤L∧b.length≤L∧P e.1 a b
theorem WpV.gt {N:Int}{K:Frag}{H H':Hp}{P:Int→Str→Str→Prop}{L:Nat}{e:En}{kv:List Key×V} (g:GT H H'):WpV N K H P L e kv→WpV N K H' P L e kv:=fun⟨h1,t,a,b,h2,h3,h4⟩=>⟨h1,t,a,b,h2,g.seqT h3,h4⟩
theorem WpV.up {N:Int}{K:Frag}{H:Hp}{P:Int→Str→Str→Prop}{L M:Nat} (h:L≤M) {e:En}{kv:List Key×V}:WpV N K H P L e kv→WpV N K H P M e kv:=fun⟨h1,t,a,b,h2,h3,h4,h5,h6⟩=>⟨h1,t,a,b,h2,h3,by omega,by omega,h6⟩
theorem ϱE {N:Int}{K:Frag}{H:Hp}{P:Int→Str→Str→Prop}{L:Nat}:∀{T:List En}{kvs:List (List Key×V)}{r:Int},Paired (WpV N K H P L) T kvs→r∈ϖx T→∃t a b,valV kvs (keyR N r)=some (.ref t)∧SqT K H t [.str a,.str b]∧a.length≤L∧b.length≤L∧P r a b
 |[],_,r,h,hr=>by simp[ϖx] at hr
 |e::T,_,r,h,hr=>by
  cases h with
  |@cons _ kv _ kvs h1 h2=>
   by_cases c:e.1=r
   ·obtain⟨k1,t,a,b,k2,k3,k4,k5,k6⟩:=h1
    exact⟨t,a,b,by rw[ϑj (by rw[k1,c]),k2],k3,k4,k5,c▸k6⟩
   ·have hr':r∈ϖx T:=by
     unfold ϖx at hr
     rw[List.map_cons,List.mem_cons] at hr
     exact hr.elim (fun z=>absurd z.symm c) id
    obtain⟨t,a,b,k1,k2⟩:=ϱE h2 hr'
    exact⟨t,a,b,by rw[ϑg (by rw[h1.1];exact fun z=>c (ϰ2 z))];exact k1,k2⟩
theorem ϰJ {N:Int}{K:Frag}{H:Hp}{P:Int→Str→Str→Prop}{L:Nat}:∀{T:List En}{kvs:List (List Key×V)}{r:Int},Paired (WpV N K H P L) T kvs→r∉ϖx T→valV kvs (keyR N r)=none
 |[],_,r,h,_=>by cases h;rfl
 |e::T,_,r,h,hr=>by
  cases h with
  |@cons _ kv _ kvs h1 h2=>
   unfold ϖx at hr
   rw[List.map_cons,List.mem_cons] at hr
   rw[ϑg (by rw[h1.1];exact fun z=>hr (.inl (ϰ2 z).symm)),ϰJ h2 fun z=>hr (.inr z)]
def WrD (N:Int) (K:Frag) (H:Hp) (P:Int→Str→Str→Prop) (d:Addr) (T:List En):Prop:=∃kvs,H d=some (.dT kvs)∧Paired (WpV N K H P 20000) T kvs
theorem WrD.mono {N:Int}{K:Frag}{H H':Hp}{P:Int→Str→Str→Prop}{d:Addr}{T:List En} (g:Same H H'):WrD N K H P d T→WrD N K H' P d T:=fun⟨kvs,h,p⟩=>⟨kvs,g _ _ h,ϖb (fun _ _=>WpV.gt (GT.of g)) p⟩
def TrF (N:Int) (K:Frag) (H:Hp) (d:Addr) (T:List En):Prop:=∃o kvs,H d=some (.frz o (.dT kvs))∧Paired (EnVP N K H) T kvs
theorem TrF.mono {N:Int}{K:Frag}{H H':Hp}{d:Addr}{T:List En} (g:Same H H'):TrF N K H d T→TrF N K H' d T:=fun⟨o,kvs,h,p⟩=>⟨o,kvs,g _ _ h,ϖb (fun _ _=>EnVP.gt (GT.of g)) p⟩
theorem ϵ2 {M:List Mk}{S:List Stp}{n f R:Int}{T:List En} (h:TrOk M S n f R T) (h9:R≤99):T.length≤99:=by
 have:=ϱ1 R.toNat (ϖx T) h.ti.nd fun x hx=>by have:=h.bnd x hx;omega
 unfold ϖx at this
 rw[List.length_map] at this
 omega
theorem ϰQ {N:Int}{K:Frag}{H:Hp}{d b:Addr}{T:List En}{r:Int} (h:TrF N K H d T) (hr:r∈ϖx T) (hb:H b=some (tupR N r)):∃(i:Nat) (e:En) (t:Addr),T[i]?=some e∧e.1=r∧DGet H d (.ref b) (some (.ref t))∧SqT K H t [.int (e.2.1:Int),optN e.2.2]:=by
 obtain⟨o,kvs,hd,hp⟩:=h
 obtain⟨i,e,t,h1,h2,h3,h4⟩:=ϱW hp hr
 exact⟨i,e,t,h1,h2,.inr ⟨kvs,keyR N r,b,.inr ⟨o,hd⟩,rfl,hb,h3.symm⟩,h4⟩
theorem ϟT {M:List Mk}{S:List Stp}{n f R:Int}{T:List En} (h:TrOk M S n f R T):∀(k i:Nat) (e:En),i < k→T[i]?=some e→e.2.1 < M.length
 |0,_,_,hk,_=>by omega
 |k+1,i,e,hk,he=>by
  rcases h.ti.en i e he with⟨_,m,hm,_⟩|⟨_,_,_,_,_,j,e',hj,he',_,hro⟩
  ·exact(List.getElem?_eq_some_iff.mp hm).1
  ·rw[← hro];exact ϟT h k j e' (by omega) he'
def spWA (K:Frag):Sp:=fun vs H Q _=>∃N v g R B S E pb ps pe d T,vs=[v,.ref d]∧DbV N K H g B S E v pb ps pe∧DbOk R B S E∧TrF N K H d T∧TrOk (B.map mE) (S.map sE) 0 3 R T∧∀d' H',Same H H'→WrD N K H' (WdA B S T) d' T→Q (.ref d') H'
def spWB (K:Frag):Sp:=fun vs H Q _=>∃N v g R B S E pb ps pe d T,vs=[v,.ref d]∧DbV N K H g B S E v pb ps pe∧DbOk R B S E∧TrF N K H d T∧TrOk (E.map mE) (S.map sE) 3 0 R T∧∀d' H',Same H H'→WrD N K H' (WdB E S T) d' T→Q (.ref d') H'
def ϟn (K:Frag):Sp:=fun vs H Q _=>∃N rb d as_ n f R T M S r,vs=[.ref rb,.ref d,.ref as_,.int n]∧(n=0∨n=3)∧StLG N K H as_ S∧TrF N K H d T∧TrOk M S n f R T∧R≤99∧H rb=some (tupR N r)∧r∈ϖx T∧∀l H' (qs:List Nat),Same H H'→H l=none→H' l=some (.lst (qs.map qV))→(∀ q∈qs,q < S.length)→qs.length≤99→TrlR T S n r qs→Q (.ref l) H'
abbrev Wyy:=Nat×List Nat×Nat
def apB (E:List DM) (S:List DS) (T:List En) (b:DM):Prop:=∃a c,WdB E S T b.1 a c∧b.2.2.1++a≠b.2.2.2++c
def apE (B:List DM) (S:List DS) (T:List En) (b:DM):Prop:=∃a c,WdA B S T b.1 a c∧a++b.2.2.1≠c++b.2.2.2
def apS (B E:List DM) (S:List DS) (T T2:List En) (d:DS):Prop:=∃a c x y,WdA B S T d.1 a c∧WdB E S T2 d.2.2.2 x y∧a++d.2.2.1.1++x≠c++d.2.2.1.2++y
def ϛI {α:Type} (P:α→Prop) (xs:List α) (i:Nat) (x:α):Prop:=xs[i]?=some x∧P x∧∀j,j < i→∀y,xs[j]?=some y→¬ P y
def WayB (E:List DM) (S:List DS) (T:List En) (B:List DM):Option Wyy→Prop
 |none=>∀b∈B,¬ apB E S T b
 |some (i,qs,j)=>∃b,ϛI (apB E S T) B i b∧TrlR T (S.map sE) 3 b.1 qs∧∃(k:Nat) (e:En),T[k]?=some e∧e.1=b.1∧j=e.2.1
def WayE (B:List DM) (S:List DS) (T:List En) (E:List DM):Option Wyy→Prop
 |none=>∀b∈E,¬ apE B S T b
 |some (i,qs,j)=>∃b,ϛI (apE B S T) E j b∧TrlR T (S.map sE) 0 b.1 qs.reverse∧∃(k:Nat) (e:En),T[k]?=some e∧e.1=b.1∧i=e.2.1
def WayS (B E:List DM) (T T2:List En) (S:List DS):Option Wyy→Prop
 |none=>∀d∈S,¬ apS B E S T T2 d
 |some (i,qs,j)=>∃d p q1 q2,ϛI (apS B E S T T2) S p d∧qs=q1++[p]++q2∧TrlR T (S.map sE) 0 d.1 q1.reverse∧TrlR T2 (S.map sE) 3 d.2.2.2 q2∧(∃ (k:Nat) (e:En),T[k]?=some e∧e.1=d.1∧i=e.2.1)∧∃(k:Nat) (e:En),T2[k]?=some e∧e.1=d.2.2.2∧j=e.2.1
def Way (B E:List DM) (S:List DS) (T T2:List En) (o:Option Wyy):Prop:=∃o1,WayB E S T2 B o1∧(o1≠none→o=o1)∧(o1=none→∃o2,WayS B E T T2 S o2∧(o2≠none→o=o2)∧(o2=none→WayE B S T E o))
def WbV (K:Frag) (H:Hp) (nb ns ne:Nat) (o:Option Wyy) (v:V):Prop:=(o=none∧v=.non)∨∃b l,∃i j:Nat,∃qs:List Nat,o=some (i,qs,j)∧v=.ref b∧SqT K H b [.int (i:Int),.ref l,.int (j:Int)]∧H l=some (.lst (qs.map qV))∧i < nb∧j < ne∧(∀ q∈qs,q < ns)∧qs.length≤999
theorem WbV.non {K:Frag}{H:Hp}{nb ns ne:Nat}{o:Option Wyy}{v:V} (h:WbV K H nb ns ne o v):v=.non↔o=none:=by
 rcases h with⟨h1,h2⟩|⟨b,l,i,j,qs,h1,h2,_⟩
 ·exact⟨fun _=>h1,fun _=>h2⟩
 ·rw[h1,h2];exact⟨(fun z=>nomatch z),(fun z=>nomatch z)⟩
theorem WbV.mono {K:Frag}{H H':Hp}{nb ns ne:Nat}{o:Option Wyy}{v:V} (g:Same H H'):WbV K H nb ns ne o v→WbV K H' nb ns ne o v
 |.inl h=>.inl h
 |.inr ⟨b,l,i,j,qs,h1,h2,h3,h4,r⟩=>.inr ⟨b,l,i,j,qs,h1,h2,Same.seqT g h3,g _ _ h4,r⟩
def ϛt (K:Frag):Sp:=fun vs H Q _=>∃N v g R Bm S Em pb ps pe d T,vs=[v,.ref d]∧DbV N K H g Bm S Em v pb ps pe∧DbOk R Bm S Em∧TrF N K H d T∧TrOk (Em.map mE) (S.map sE) 3 0 R T∧∀w H' o,Same H H'→WayB Em S T Bm o→WbV K H' Bm.length S.length Em.length o w→Q w H'
def ϛg (K:Frag):Sp:=fun vs H Q _=>∃N v g R Bm S Em pb ps pe d T,vs=[v,.ref d]∧DbV N K H g Bm S Em v pb ps pe∧DbOk R Bm S Em∧TrF N K H d T∧TrOk (Bm.map mE) (S.map sE) 0 3 R T∧∀w H' o,Same H H'→WayE Bm S T Em o→WbV K H' Bm.length S.length Em.length o w→Q w H'
def ϛ_ (K:Frag):Sp:=fun vs H Q _=>∃N v g R Bm S Em pb ps pe d T d2 T2,vs=[v,.ref d,.ref d2]∧DbV N K H g Bm S Em v pb ps pe∧DbOk R Bm S Em∧TrF N K H d T∧TrOk (Bm.map mE) (S.map sE) 0 3 R T∧TrF N K H d2 T2∧TrOk (Em.map mE) (S.map sE) 3 0 R T2∧∀w H' o,Same H H'→WayS Bm Em T T2 S o→WbV K H' Bm.length S.length Em.length o w→Q w H'
def ϝG (K:Frag):Sp:=fun vs H Q _=>∃N v g R Bm S Em pb ps pe d T rb r,vs=[.ref rb,.ref d,v]∧DbV N K H g Bm S Em v pb ps pe∧DbOk R Bm S Em∧TrF N K H d T∧TrOk (Bm.map mE) (S.map sE) 0 3 R T∧H rb=some (tupR N r)∧r∈ϖx T∧∀l H' (qs:List Nat),Same H H'→H l=none→H' l=some (.lst (qs.map qV))→(∀ q∈qs,q < S.length)→qs.length≤99→TrlR T (S.map sE) 0 r qs.reverse→Q (.ref l) H'
def spWy (K:Frag):Sp:=fun vs H Q _=>∃N v g R Bm S Em pb ps pe,vs=[v]∧DbV N K H g Bm S Em v pb ps pe∧DbOk R Bm S Em∧∀w H' o T T2,Same H H'→TrOk (Bm.map mE) (S.map sE) 0 3 R T→TrOk (Em.map mE) (S.map sE) 3 0 R T2→Way Bm Em S T T2 o→WbV K H' Bm.length S.length Em.length o w→Q w H'
theorem iteX {b:Bool}{P:Prop}{Q R:Prop} (h:b=true↔P) (h1:P→Q) (h2:¬ P→R):if b=true then Q else R:=by
 by_cases c:b=true
 ·rw[if_pos c];exact h1 (h.mp c)
 ·rw[if_neg c];exact h2 fun z=>c (h.mpr z)
theorem nd_iff {P:Prop} [Decidable P]:(!decide P)=true↔¬ P:=by
 by_cases c:P
 ·rw[decide_eq_true c];exact⟨fun z=>absurd z (by decide),fun z=>absurd c z⟩
 ·rw[decide_eq_false c];exact⟨fun _=>c,fun _=>rfl⟩
def prj (c:Int) (p:Nat×Nat):Nat:=if c=0 then p.1 else p.2
def bA (B:List DM) (i:Nat):DM:=B[i]?.getD (0,(0,0),("",""))
def tA (S:List DS) (q:Nat):DS:=S[q]?.getD (0,(0,0),("",""),0)
theorem ϛe {B:List DM}{i:Nat} (h:i < B.length):B[i]=bA B i:=by unfold bA;rw[List.getElem?_eq_getElem h];rfl
theorem tA_get {S:List DS}{q:Nat} (h:q < S.length):S[q]=tA S q:=by unfold tA;rw[List.getElem?_eq_getElem h];rfl
def sgW (c:Int) (B E:List DM) (S:List DS) (w:Wyy):Wyy:=(prj c (bA B w.1).2.1,w.2.1.map (fun q=>prj c (tA S q).2.1),prj c (bA E w.2.2).2.1)
def WyyV (K:Frag) (H:Hp) (w:Wyy) (v:V) (l:Addr):Prop:=∃b,v=.ref b∧H b=some (.tup [.int (w.1:Int),.ref l,.int (w.2.2:Int)])∧H l=some (.lst (w.2.1.map qV))
theorem WyyV.mono {K:Frag}{H H':Hp}{w:Wyy}{v:V}{l:Addr} (g:Same H H'):WyyV K H w v l→WyyV K H' w v l:=fun⟨b,h1,h2,h3⟩=>⟨b,h1,g _ _ h2,g _ _ h3⟩
def spSg (K:Frag):Sp:=fun vs H Q _=>∃N v g Bm S Em pb ps pe w c wy,vs=[v,w,.int c]∧(c=0∨c=1)∧DbV N K H g Bm S Em v pb ps pe∧WbV K H Bm.length S.length Em.length (some wy) w∧∀t l H',Same H H'→H l=none→WyyV K H' (sgW c Bm Em S wy) t l→Q t H'
theorem at01 {c:Int} (h:c=0∨c=1) (x y:Nat):atI [V.int (x:Int),V.int (y:Int)] c=some (V.int ((prj c (x,y):Nat):Int)):=by
 rcases h with rfl|rfl
 ·exact ϖQ (j:=0) rfl
 ·exact ϖQ (j:=1) rfl
def TwoR (s:Scr) (o:Option (Wyy×Wyy)):Prop:=∃T T2 ow,TrOk ((dB s).map mE) ((dS s).map sE) 0 3 (nOf s*nOf s) T∧TrOk ((dE s).map mE) ((dS s).map sE) 3 0 (nOf s*nOf s) T2∧Way (dB s) (dE s) (dS s) T T2 ow∧(∀ w,ow=some w→w.1 < (dB s).length∧w.2.2 < (dE s).length∧∀q∈w.2.1,q < (dS s).length)∧o=ow.map fun w=>(sgW 0 (dB s) (dE s) (dS s) w,sgW 1 (dB s) (dE s) (dS s) w)
def spMR (K:Frag) (c:Addr):Sp:=fun vs H Q E=>∃v s pb ps pe,vs=[v]∧ScV K H s v pb ps pe∧(s.rooms≤8→Q .non H)∧(8 < s.rooms→E (.ref c) none H)
def spTW (K:Frag) (c:Addr):Sp:=fun vs H Q E=>∃v s pb ps pe,vs=[v]∧ScV K H s v pb ps pe∧OkR s∧ϟ6 s∧s.begins.length≤999∧s.steps.length≤9999∧s.ends.length≤999∧SgL s.steps∧0≤s.rooms ∧
 (s.rooms≤8→(TwoR s none→∀H',Same H H'→Q .non H')∧∀w1 w2,TwoR s (some (w1,w2))→∀t v1 v2 l1 l2 H',Same H H'→H' t=some (.tup [v1,v2])→WyyV K H' w1 v1 l1→WyyV K H' w2 v2 l2→H l1=none→H l2=none→l1≠l2→Q (.ref t) H')∧(8 < s.rooms→E (.ref c) none H)
theorem TrlR.det {T:List En}{S:List Stp}{n:Int} (nd:(ϖx T).Nodup) {r:Int}{l:List Nat} (h:TrlR T S n r l):∀{l':List Nat},TrlR T S n r l'→l=l':=by
 induction h with
 |@done i e h h2=>
  intro l' k
  generalize hr:e.1=r at k
  cases k with
  |done k k2=>rfl
  |more k k2 k3 x=>
   obtain⟨_,rfl⟩:=ϑ4 nd h k hr
   rw[h2] at k2;cases k2
 |@more i e q t l h h2 h3 x ih=>
  intro l' k
  generalize hr:e.1=r at k
  cases k with
  |done k k2=>
   obtain⟨_,rfl⟩:=ϑ4 nd h k hr
   rw[h2] at k2;cases k2
  |more k k2 k3 y=>
   obtain⟨_,rfl⟩:=ϑ4 nd h k hr
   rw[h2] at k2
   injection k2 with k2
   subst k2
   rw[h3] at k3
   injection k3 with k3
   subst k3
   rw[ih y]
theorem can_l {u L1 v L2 F1 F2 x y:List Nat} (h1:u++L1=v++L2) (h2:F1++L1=F2++L2) (h3:F1++x=F2++y):u++x=v++y:=by
 rcases List.append_eq_append_iff.mp h1 with⟨z,e1,e2⟩|⟨z,e1,e2⟩
 ·rw[e2,← List.append_assoc] at h2
  have h2:=List.append_cancel_right h2
  rw[← h2,List.append_assoc] at h3
  rw[List.append_cancel_left h3,e1,List.append_assoc]
 ·rw[e2,← List.append_assoc] at h2
  have h2:=List.append_cancel_right h2
  rw[h2,List.append_assoc] at h3
  rw[← List.append_cancel_left h3,e1,List.append_assoc]
theorem str_app {a b c d:Str}:a++b=c++d↔cl a++cl b=cl c++cl d:=by
 rw[← ϖS,← ϖS]
 exact⟨fun h=>by rw[h],fun h=>ϕq h⟩
theorem can {u L1 v L2 F1 F2 x y:Str} (h1:u++L1=v++L2) (h2:F1++L1=F2++L2) (h3:F1++x=F2++y):u++x=v++y:=
 str_app.mpr (can_l (str_app.mp h1) (str_app.mp h2) (str_app.mp h3))
theorem sap (a b c:Str):a++b++c=a++(b++c):=by
 refine ϕq ?_
 rw[ϖS,ϖS,ϖS,ϖS,List.append_assoc]
theorem ϲf (a:Str):a++(Str.ofString "")=a:=by refine ϕq ?_;rw[ϖS,show cl (Str.ofString "")=[] by decide +kernel,List.append_nil]
theorem ϡE (a:Str):(Str.ofString "")++a=a:=by refine ϕq ?_;rw[ϖS,show cl (Str.ofString "")=[] by decide +kernel,List.nil_append]
theorem ϟU {a b c:Str} (h:a++b=a++c):b=c:=ϕq (List.append_cancel_left (str_app.mp h))
theorem ϡq {a b c:Str} (h:a++c=b++c):a=b:=ϕq (List.append_cancel_right (str_app.mp h))
section theory
variable {B E:List DM}{S:List DS}{R:Int}{T T2:List En}
theorem ϝK (tr:TrOk (B.map mE) (S.map sE) 0 3 R T):∀(k i:Nat) (e:En),i < k→T[i]?=some e→∃a c,WdA B S T e.1 a c
 |0,_,_,h,_=>absurd h (Nat.not_lt_zero _)
 |k+1,i,e,h,he=>by
  rcases tr.ti.en i e he with⟨h1,m,hm,_⟩|⟨q,st,h1,hs,_,j,e',hj,he',hn,_⟩
  ·rw[List.getElem?_map] at hm
   obtain⟨b,hb,_⟩:=Option.map_eq_some_iff.mp hm
   exact⟨_,_,.stop he h1 hb⟩
  ·rw[List.getElem?_map] at hs
   obtain⟨d,hd,rfl⟩:=Option.map_eq_some_iff.mp hs
   obtain⟨a,c,x⟩:=ϝK tr k j e' (by omega) he'
   have:e'.1=d.1:=hn
   rw[this] at x
   exact⟨_,_,.step he h1 hd x⟩
theorem ϝO (tr:TrOk (E.map mE) (S.map sE) 3 0 R T):∀(k i:Nat) (e:En),i < k→T[i]?=some e→∃a c,WdB E S T e.1 a c
 |0,_,_,h,_=>absurd h (Nat.not_lt_zero _)
 |k+1,i,e,h,he=>by
  rcases tr.ti.en i e he with⟨h1,m,hm,_⟩|⟨q,st,h1,hs,_,j,e',hj,he',hn,_⟩
  ·rw[List.getElem?_map] at hm
   obtain⟨b,hb,_⟩:=Option.map_eq_some_iff.mp hm
   exact⟨_,_,.stop he h1 hb⟩
  ·rw[List.getElem?_map] at hs
   obtain⟨d,hd,rfl⟩:=Option.map_eq_some_iff.mp hs
   obtain⟨a,c,x⟩:=ϝO tr k j e' (by omega) he'
   have:e'.1=d.2.2.2:=hn
   rw[this] at x
   exact⟨_,_,.step he h1 hd x⟩
theorem ϡZ (tr:TrOk (B.map mE) (S.map sE) 0 3 R T) {r:Int} (h:r∈ϖx T):∃a c,WdA B S T r a c:=by
 obtain⟨e,he,rfl⟩:=List.mem_map.mp h
 obtain⟨i,hi⟩:=List.getElem?_of_mem he
 exact ϝK tr (i+1) i e (by omega) hi
theorem ϟC (tr:TrOk (E.map mE) (S.map sE) 3 0 R T) {r:Int} (h:r∈ϖx T):∃a c,WdB E S T r a c:=by
 obtain⟨e,he,rfl⟩:=List.mem_map.mp h
 obtain⟨i,hi⟩:=List.getElem?_of_mem he
 exact ϝO tr (i+1) i e (by omega) hi
inductive Rea (B:List DM) (S:List DS):Int→Str→Str→Prop
 |beg {b:DM} (h:b∈B):Rea B S b.1 b.2.2.1 b.2.2.2
 |go {d:DS}{u v:Str} (h:d∈S) (x:Rea B S d.1 u v):Rea B S d.2.2.2 (u++d.2.2.1.1) (v++d.2.2.1.2)
theorem Rea.key (tr:TrOk (B.map mE) (S.map sE) 0 3 R T) {r:Int}{u v:Str} (h:Rea B S r u v):r∈ϖx T:=by
 induction h with
 |@beg b h=>exact tr.marks (mE b) (List.mem_map_of_mem h)
 |@go d u v h x ih=>exact tr.clo _ ih (sE d) (List.mem_map_of_mem h) rfl
theorem stopA (tr:TrOk (B.map mE) (S.map sE) 0 3 R T) {i:Nat}{e:En}{b:DM} (h:T[i]?=some e) (h2:e.2.2=none) (h3:B[e.2.1]?=some b):e.1=b.1:=by
 rcases tr.ti.en i e h with⟨_,m,hm,hr⟩|⟨q,st,h1,_⟩
 ·rw[List.getElem?_map,h3] at hm
  injection hm with hm
  rw[← hr,← hm];rfl
 ·rw[h2] at h1;cases h1
theorem stepA (tr:TrOk (B.map mE) (S.map sE) 0 3 R T) {i:Nat}{e:En}{q:Nat}{d:DS} (h:T[i]?=some e) (h2:e.2.2=some q) (h3:S[q]?=some d):e.1=d.2.2.2∧∃j e',j < i∧T[j]?=some e'∧e'.1=d.1∧e'.2.1=e.2.1:=by
 rcases tr.ti.en i e h with⟨h1,_⟩|⟨q',st,h1,hs,hf,r⟩
 ·rw[h2] at h1;cases h1
 ·rw[h2] at h1
  injection h1 with h1
  subst h1
  rw[List.getElem?_map,h3] at hs
  injection hs with hs
  subst hs
  exact⟨hf.symm,r⟩
theorem stopB (tr:TrOk (E.map mE) (S.map sE) 3 0 R T) {i:Nat}{e:En}{b:DM} (h:T[i]?=some e) (h2:e.2.2=none) (h3:E[e.2.1]?=some b):e.1=b.1:=by
 rcases tr.ti.en i e h with⟨_,m,hm,hr⟩|⟨q,st,h1,_⟩
 ·rw[List.getElem?_map,h3] at hm
  injection hm with hm
  rw[← hr,← hm];rfl
 ·rw[h2] at h1;cases h1
theorem stepB (tr:TrOk (E.map mE) (S.map sE) 3 0 R T) {i:Nat}{e:En}{q:Nat}{d:DS} (h:T[i]?=some e) (h2:e.2.2=some q) (h3:S[q]?=some d):e.1=d.1∧∃j e',j < i∧T[j]?=some e'∧e'.1=d.2.2.2∧e'.2.1=e.2.1:=by
 rcases tr.ti.en i e h with⟨h1,_⟩|⟨q',st,h1,hs,hf,r⟩
 ·rw[h2] at h1;cases h1
 ·rw[h2] at h1
  injection h1 with h1
  subst h1
  rw[List.getElem?_map,h3] at hs
  injection hs with hs
  subst hs
  exact⟨hf.symm,r⟩
theorem ϝ2 (tr:TrOk (B.map mE) (S.map sE) 0 3 R T) (hB:WayB E S T2 B none) (hS:WayS B E T T2 S none) {r:Int}{a c x y:Str} (h:WdA B S T r a c) (k:WdB E S T2 r x y):a++x=c++y:=by
 cases h with
 |@stop i e b h h2 h3=>
  rw[stopA tr h h2 h3] at k
  exact Classical.not_not.mp fun z=>hB b (List.mem_of_getElem? h3) ⟨x,y,k,z⟩
 |@step i e q d a c h h2 h3 w=>
  rw[(stepA tr h h2 h3).1] at k
  exact Classical.not_not.mp fun z=>hS d (List.mem_of_getElem? h3) ⟨a,c,x,y,w,k,z⟩
theorem claim1 (tr:TrOk (B.map mE) (S.map sE) 0 3 R T) (tr2:TrOk (E.map mE) (S.map sE) 3 0 R T2) (hB:WayB E S T2 B none) (hS:WayS B E T T2 S none) {r:Int}{u v:Str} (h:Rea B S r u v):∀{x y:Str},WdB E S T2 r x y→u++x=v++y:=by
 induction h with
 |@beg b h=>exact fun {x y} k=>Classical.not_not.mp fun z=>hB b h ⟨x,y,k,z⟩
 |@go d u v h w ih=>
  intro x y k
  have h1:=w.key tr
  have h2:d.1∈ϖx T2:=tr2.clo _ k.key (sE d) (List.mem_map_of_mem h) rfl
  obtain⟨F1,F2,hF⟩:=ϡZ tr h1
  obtain⟨L1,L2,hL⟩:=ϟC tr2 h2
  have e1:=ih hL
  have e2:=ϝ2 tr hB hS hF hL
  have e3:F1++d.2.2.1.1++x=F2++d.2.2.1.2++y:=Classical.not_not.mp fun z=>hS d h ⟨F1,F2,x,y,hF,k,z⟩
  rw[sap,sap] at e3⊢
  exact can e1 e2 e3
theorem claim2 (tr:TrOk (B.map mE) (S.map sE) 0 3 R T) (tr2:TrOk (E.map mE) (S.map sE) 3 0 R T2) (hB:WayB E S T2 B none) (hS:WayS B E T T2 S none) (hE:WayE B S T E none) {r:Int}{u v:Str} (h:Rea B S r u v) {f:DM} (hf:f∈E) (hr:f.1=r):u++f.2.2.1=v++f.2.2.2:=by
 have h2:r∈ϖx T2:=by rw[← hr];exact tr2.marks (mE f) (List.mem_map_of_mem hf)
 obtain⟨F1,F2,hF⟩:=ϡZ tr (h.key tr)
 obtain⟨L1,L2,hL⟩:=ϟC tr2 h2
 have e1:=claim1 tr tr2 hB hS h hL
 have e2:=ϝ2 tr hB hS hF hL
 have e3:F1++f.2.2.1=F2++f.2.2.2:=Classical.not_not.mp fun z=>hE f hf ⟨F1,F2,by rw[hr];exact hF,z⟩
 exact can e1 e2 e3
inductive DP (S:List DS):Int→List Nat→Int→Str→Str→Prop
 |nil (r:Int):DP S r [] r "" ""
 |cons {q:Nat}{d:DS}{qs:List Nat}{r:Int}{a c:Str} (h:S[q]?=some d) (x:DP S d.2.2.2 qs r a c):DP S d.1 (q::qs) r (d.2.2.1.1++a) (d.2.2.1.2++c)
theorem DP.app {S:List DS}{r m r':Int}{qs qs':List Nat}{a c a' c':Str} (h:DP S r qs m a c) (k:DP S m qs' r' a' c'):DP S r (qs++qs') r' (a++a') (c++c'):=by
 induction h with
 |nil r=>rw[ϡE,ϡE];exact k
 |cons h x ih=>rw[sap,sap];exact .cons h (ih k)
theorem DP.one {S:List DS}{q:Nat}{d:DS} (h:S[q]?=some d):DP S d.1 [q] d.2.2.2 d.2.2.1.1 d.2.2.1.2:=by
 have:=DP.cons h (DP.nil d.2.2.2)
 rw[ϲf,ϲf] at this
 exact this
theorem DP.rea {S:List DS}{r r':Int}{qs:List Nat}{a c:Str} (h:DP S r qs r' a c):∀{u v:Str},Rea B S r u v→Rea B S r' (u++a) (v++c):=by
 induction h with
 |nil r=>intro u v k;rw[ϲf,ϲf];exact k
 |@cons q d qs r a c h x ih=>
  intro u v k
  have:=ih (.go (List.mem_of_getElem? h) k)
  rw[sap,sap] at this
  exact this
theorem ϛa (tr:TrOk (E.map mE) (S.map sE) 3 0 R T) {r:Int}{x y:Str} (h:WdB E S T r x y):∀{qs:List Nat}{k:Nat}{e:En},TrlR T (S.map sE) 3 r qs→T[k]?=some e→e.1=r→∃f a c,E[e.2.1]?=some f∧DP S r qs f.1 a c∧x=a++f.2.2.1∧y=c++f.2.2.2∧qs.length≤k:=by
 induction h with
 |@stop i e b h h2 h3=>
  intro qs k e' t hk he
  obtain⟨rfl,rfl⟩:=ϑ4 tr.ti.nd h hk he.symm
  have:=t.det tr.ti.nd (.done h h2)
  subst this
  refine⟨b,"","",h3,?_,(ϡE _).symm,(ϡE _).symm,Nat.zero_le _⟩
  rw[stopB tr h h2 h3];exact .nil _
 |@step i e q d a c h h2 h3 w ih=>
  intro qs k e' t hk he
  obtain⟨rfl,rfl⟩:=ϑ4 tr.ti.nd h hk he.symm
  obtain⟨e1,j,e2,hj,he2,hr2,hroot⟩:=stepB tr h h2 h3
  obtain⟨l,tl,rfl⟩:∃l,TrlR T (S.map sE) 3 d.2.2.2 l∧qs=q::l:=by
   generalize hr:e.1=r at t
   cases t with
   |done k k2=>
    obtain⟨_,rfl⟩:=ϑ4 tr.ti.nd h k hr
    rw[h2] at k2;cases k2
   |@more _ _ q' t' l k k2 k3 x=>
    obtain⟨_,rfl⟩:=ϑ4 tr.ti.nd h k hr
    rw[h2] at k2
    injection k2 with k2
    subst k2
    rw[List.getElem?_map,h3] at k3
    injection k3 with k3
    subst k3
    exact⟨l,x,rfl⟩
  obtain⟨f,a',c',hf,hp,ex,ey,hl⟩:=ih tl he2 hr2
  rw[hroot] at hf
  refine⟨f,d.2.2.1.1++a',d.2.2.1.2++c',hf,?_,by rw[ex,sap],by rw[ey,sap],by rw[List.length_cons];omega⟩
  rw[e1];exact .cons h3 hp
theorem ϝ9 (tr:TrOk (B.map mE) (S.map sE) 0 3 R T) {r:Int}{x y:Str} (h:WdA B S T r x y):∀{qs:List Nat}{k:Nat}{e:En},TrlR T (S.map sE) 0 r qs→T[k]?=some e→e.1=r→∃f a c,B[e.2.1]?=some f∧DP S f.1 qs.reverse r a c∧x=f.2.2.1++a∧y=f.2.2.2++c∧qs.length≤k:=by
 induction h with
 |@stop i e b h h2 h3=>
  intro qs k e' t hk he
  obtain⟨rfl,rfl⟩:=ϑ4 tr.ti.nd h hk he.symm
  have:=t.det tr.ti.nd (.done h h2)
  subst this
  refine⟨b,"","",h3,?_,(ϲf _).symm,(ϲf _).symm,Nat.zero_le _⟩
  rw[stopA tr h h2 h3];exact .nil _
 |@step i e q d a c h h2 h3 w ih=>
  intro qs k e' t hk he
  obtain⟨rfl,rfl⟩:=ϑ4 tr.ti.nd h hk he.symm
  obtain⟨e1,j,e2,hj,he2,hr2,hroot⟩:=stepA tr h h2 h3
  obtain⟨l,tl,rfl⟩:∃l,TrlR T (S.map sE) 0 d.1 l∧qs=q::l:=by
   generalize hr:e.1=r at t
   cases t with
   |done k k2=>
    obtain⟨_,rfl⟩:=ϑ4 tr.ti.nd h k hr
    rw[h2] at k2;cases k2
   |@more _ _ q' t' l k k2 k3 x=>
    obtain⟨_,rfl⟩:=ϑ4 tr.ti.nd h k hr
    rw[h2] at k2
    injection k2 with k2
    subst k2
    rw[List.getElem?_map,h3] at k3
    injection k3 with k3
    subst k3
    exact⟨l,x,rfl⟩
  obtain⟨f,a',c',hf,hp,ex,ey,hl⟩:=ih tl he2 hr2
  rw[hroot] at hf
  refine⟨f,a'++d.2.2.1.1,c'++d.2.2.1.2,hf,?_,by rw[ex,sap],by rw[ey,sap],by rw[List.length_cons];omega⟩
  rw[e1,List.reverse_cons]
  exact hp.app (.one h3)
theorem ϝv (tr:TrOk (B.map mE) (S.map sE) 0 3 R T) (tr2:TrOk (E.map mE) (S.map sE) 3 0 R T2) (h9:R≤99) {i j:Nat}{qs:List Nat} (h:Way B E S T T2 (some (i,qs,j))):∃b f a c,B[i]?=some b∧E[j]?=some f∧DP S b.1 qs f.1 a c∧b.2.2.1++a++f.2.2.1≠b.2.2.2++c++f.2.2.2∧qs.length≤199:=by
 have l1:=ϵ2 tr h9
 have l2:=ϵ2 tr2 h9
 obtain⟨o1,a1,a2,a3⟩:=h
 by_cases z:o1=none
 ·obtain⟨o2,b1,b2,b3⟩:=a3 z
  by_cases z2:o2=none
  ·obtain⟨f,hf,ht,k,e,hk,he,hi⟩:=b3 z2
   obtain⟨x,y,hw,hne⟩:=hf.2.1
   obtain⟨b,a,c,hb,hp,ex,ey,hl⟩:=ϝ9 tr hw ht hk he
   rw[← hi] at hb
   rw[List.reverse_reverse] at hp
   have:=(List.getElem?_eq_some_iff.mp hk).1
   rw[List.length_reverse] at hl
   exact⟨b,f,a,c,hb,hf.1,hp,by rw[← ex,← ey];exact hne,by omega⟩
  ·rw[← b2 z2] at b1
   obtain⟨d,p,q1,q2,hd,eqs,t1,t2,⟨k,e,hk,he,hi⟩,k2,e2,hk2,he2,hj⟩:=b1
   obtain⟨x,y,u,v,hw1,hw2,hne⟩:=hd.2.1
   obtain⟨b,a,c,hb,hp,ex,ey,hl⟩:=ϝ9 tr hw1 t1 hk he
   obtain⟨f,a',c',hf,hp2,eu,ev,hl2⟩:=ϛa tr2 hw2 t2 hk2 he2
   rw[← hi] at hb
   rw[← hj] at hf
   rw[List.reverse_reverse] at hp
   have:=(List.getElem?_eq_some_iff.mp hk).1
   have:=(List.getElem?_eq_some_iff.mp hk2).1
   rw[List.length_reverse] at hl
   refine⟨b,f,a++d.2.2.1.1++a',c++d.2.2.1.2++c',hb,hf,?_,?_,by rw[eqs,List.length_append,List.length_append,List.length_singleton];omega⟩
   ·rw[eqs];exact(hp.app (.one hd.1)).app hp2
   ·intro z
    refine hne ?_
    rw[ex,ey,eu,ev]
    simp only[sap] at z⊢
    exact z
 ·rw[← a2 z] at a1
  obtain⟨b,hb,ht,k,e,hk,he,hj⟩:=a1
  obtain⟨x,y,hw,hne⟩:=hb.2.1
  obtain⟨f,a,c,hf,hp,ex,ey,hl⟩:=ϛa tr2 hw ht hk he
  rw[← hj] at hf
  have:=(List.getElem?_eq_some_iff.mp hk).1
  refine⟨b,f,a,c,hb.1,hf,hp,?_,by omega⟩
  rw[ex,ey,← sap,← sap] at hne
  exact hne
theorem ϝp (tr:TrOk (B.map mE) (S.map sE) 0 3 R T) (tr2:TrOk (E.map mE) (S.map sE) 3 0 R T2) (h:Way B E S T T2 none) {b f:DM}{qs:List Nat}{a c:Str} (hb:b∈B) (hf:f∈E) (hp:DP S b.1 qs f.1 a c):b.2.2.1++a++f.2.2.1=b.2.2.2++c++f.2.2.2:=by
 obtain⟨o1,a1,a2,a3⟩:=h
 have z:o1=none:=Classical.byContradiction fun z=>z (a2 z).symm
 obtain⟨o2,b1,b2,b3⟩:=a3 z
 have z2:o2=none:=Classical.byContradiction fun z=>z (b2 z).symm
 subst z z2
 exact claim2 tr tr2 a1 b1 (b3 rfl) (hp.rea (.beg hb)) hf rfl
end theory
inductive OP (S:List Stp):Int→List Nat→Int→Str→Str→Prop
 |nil (r:Int):OP S r [] r "" ""
 |cons {q:Nat}{t:Stp}{qs:List Nat}{r:Int}{x w:Str} (h:S[q]?=some t) (y:OP S t.2.2.2 qs r x w):OP S t.1 (q::qs) r (t.2.1++x) (t.2.2.1++w)
theorem OP.app {S:List Stp}{r m r':Int}{qs qs':List Nat}{a c a' c':Str} (h:OP S r qs m a c) (k:OP S m qs' r' a' c'):OP S r (qs++qs') r' (a++a') (c++c'):=by
 induction h with
 |nil r=>rw[ϡE,ϡE];exact k
 |cons h x ih=>rw[sap,sap];exact .cons h (ih k)
def OWay (s:Scr) (w:Wyy) (x u:Str):Prop:=∃m e v,s.begins[w.1]?=some m∧s.ends[w.2.2]?=some e∧OP s.steps m.1 w.2.1 e.1 x v∧u=m.2++v++e.2
def ϕG (s:Scr):Prop:=∀X Y x u v,OWay s X x u→OWay s Y x v→u=v
structure Nice (s:Scr):Prop where
 ok:OkR s
 r0:0≤s.rooms
 r8:s.rooms≤8
 nb:s.begins.Nodup
 ns:s.steps.Nodup
 ne:s.ends.Nodup
 sg:∀t∈s.steps,∃c,t.2.1=⟨#[c]⟩
theorem ϛU {s:Scr} (h:Nice s):0 < nOf s∧s.rooms≤nOf s∧nOf s≤8:=by
 have:=h.r0;have:=h.r8
 unfold nOf;split<;>exact⟨by omega,by omega,by omega⟩
theorem nn9 {s:Scr} (h:Nice s):nOf s*nOf s≤99:=by
 have:=ϛU h
 have e1:nOf s*nOf s≤8*nOf s:=Int.mul_le_mul_of_nonneg_right this.2.2 (by omega)
 omega
theorem ϝj {N a b:Int} (h0:0≤b) (h1:b < N):enc N a b / N=a:=ϟF h0 h1
theorem ϝD {N a b:Int} (h0:0≤b) (h1:b < N):enc N a b % N=b:=ϡ0 h0 h1
theorem ϲK {S:List Stp}{o:Nat} (h:o < S.length):S[o]?=some (sA S o):=by rw[List.getElem?_eq_getElem h,ϱF h]
theorem ϱI {M:List Mk}{o:Nat} (h:o < M.length):M[o]?=some (mA M o):=by rw[List.getElem?_eq_getElem h,ϲ9 h]
theorem ϟi {S:List Stp}{o:Nat} (h:o < S.length):sA S o∈S:=List.mem_of_getElem? (ϲK h)
theorem ϡm {M:List Mk}{o:Nat} (h:o < M.length):mA M o∈M:=List.mem_of_getElem? (ϱI h)
theorem ϟd {S:List DS}{q:Nat}{d:DS} (h:S[q]?=some d):tA S q=d:=by unfold tA;rw[h];rfl
theorem DP.proj {s:Scr} (n:Nice s) {r r':Int}{qs:List Nat}{a c:Str} (h:DP (dS s) r qs r' a c):∃x,x.length=qs.length∧OP s.steps (r / nOf s) (qs.map fun q=>prj 0 (tA (dS s) q).2.1) (r' / nOf s) x a∧OP s.steps (r % nOf s) (qs.map fun q=>prj 1 (tA (dS s) q).2.1) (r' % nOf s) x c:=by
 induction h with
 |nil r=>exact⟨"",rfl,.nil _,.nil _⟩
 |@cons q d qs r a c h y ih=>
  obtain⟨x,hx,i1,i2⟩:=ih
  obtain⟨o,o2,ho,ho2,hg,rfl⟩:=ϟP (List.mem_of_getElem? h)
  have b:=ϛU n
  have m1:=n.ok.ms _ (ϟi (ϰm ho))
  have m2:=n.ok.ms _ (ϟi (ϰm ho2))
  have hg:(sA s.steps o).2.1=(sA s.steps o2).2.1:=by unfold sgK at hg;injection hg
  obtain⟨ch,hch⟩:=n.sg _ (ϟi (ϰm ho))
  refine⟨(sA s.steps o).2.1++x,by rw[ϑi,hx,hch,List.length_cons];show 1+_=_;omega,?_,?_⟩
  ·rw[List.map_cons,ϟd h]
   have e1:(dsk (nOf s) s.steps o o2).1 / nOf s=(sA s.steps o).1:=ϝj m2.1 (by omega)
   have e2:(dsk (nOf s) s.steps o o2).2.2.2 / nOf s=(sA s.steps o).2.2.2:=ϝj m2.2.2.1 (by omega)
   rw[e1]
   rw[e2] at i1
   exact .cons (ϲK (ϰm ho)) i1
  ·rw[List.map_cons,ϟd h,hg]
   have e1:(dsk (nOf s) s.steps o o2).1 % nOf s=(sA s.steps o2).1:=ϝD m2.1 (by omega)
   have e2:(dsk (nOf s) s.steps o o2).2.2.2 % nOf s=(sA s.steps o2).2.2.2:=ϝD m2.2.2.1 (by omega)
   rw[e1]
   rw[e2] at i2
   exact .cons (ϲK (ϰm ho2)) i2
theorem ϡS {N:Int}{M:List Mk}{d:DM} (h:d∈dmL N M):∃o o2,o∈twM M∧o2∈twM M∧d=dmk N M o o2:=by
 unfold dmL at h
 obtain⟨o,ho,h⟩:=List.mem_flatMap.mp h
 obtain⟨o2,ho2,rfl⟩:=List.mem_map.mp h
 exact⟨o,o2,ho,ho2,rfl⟩
theorem ϵH {B:List DM}{q:Nat}{d:DM} (h:B[q]?=some d):bA B q=d:=by unfold bA;rw[h];rfl
theorem ϝm {s:Scr} (n:Nice s) {w1 w2:Wyy} (h:TwoR s (some (w1,w2))):∃x u v,OWay s w1 x u∧OWay s w2 x v∧u≠v∧x.length≤199:=by
 obtain⟨T,T2,ow,t1,t2,hw,_,e⟩:=h
 cases ow with
 |none=>cases e
 |some w=>
  injection e with e
  injection e with e1 e2
  obtain⟨i,qs,j⟩:=w
  obtain⟨b,f,a,c,hb,hf,hp,hne,hl⟩:=ϝv t1 t2 (nn9 n) hw
  obtain⟨x,hx,p1,p2⟩:=hp.proj n
  obtain⟨o,o2,ho,ho2,eb⟩:=ϡS (List.mem_of_getElem? hb)
  obtain⟨k,k2,hk,hk2,ef⟩:=ϡS (List.mem_of_getElem? hf)
  have bd:=ϛU n
  have m1:=n.ok.mb _ (ϡm (ϕ9 ho))
  have m2:=n.ok.mb _ (ϡm (ϕ9 ho2))
  have m3:=n.ok.me _ (ϡm (ϕ9 hk))
  have m4:=n.ok.me _ (ϡm (ϕ9 hk2))
  have d1:b.1 / nOf s=(mA s.begins o).1:=by rw[eb];exact ϝj m2.1 (by omega)
  have d2:b.1 % nOf s=(mA s.begins o2).1:=by rw[eb];exact ϝD m2.1 (by omega)
  have d3:f.1 / nOf s=(mA s.ends k).1:=by rw[ef];exact ϝj m4.1 (by omega)
  have d4:f.1 % nOf s=(mA s.ends k2).1:=by rw[ef];exact ϝD m4.1 (by omega)
  rw[d1,d3] at p1
  rw[d2,d4] at p2
  refine⟨x,b.2.2.1++a++f.2.2.1,b.2.2.2++c++f.2.2.2,?_,?_,hne,by omega⟩
  ·rw[e1]
   unfold sgW
   dsimp only
   rw[ϵH hb,ϵH hf,eb,ef]
   exact⟨_,_,a,ϱI (ϕ9 ho),ϱI (ϕ9 hk),p1,rfl⟩
  ·rw[e2]
   unfold sgW
   dsimp only
   rw[ϵH hb,ϵH hf,eb,ef]
   exact⟨_,_,c,ϱI (ϕ9 ho2),ϱI (ϕ9 hk2),p2,rfl⟩
theorem ϲ8 {κ:Type} [DecidableEq κ] {ks:List κ}{k:κ}{m:Nat}:∀{n:Nat},m < cnt (ks.take n) k→∃i,i < n∧ks[i]?=some k∧cnt (ks.take i) k=m
 |0,h=>by rw[List.take_zero] at h;exact absurd h (Nat.not_lt_zero _)
 |n+1,h=>by
  by_cases c:m < cnt (ks.take n) k
  ·obtain⟨i,h1,h2⟩:=ϲ8 c
   exact⟨i,by omega,h2⟩
  ·cases hn:ks[n]? with
   |none=>
    rw[List.take_of_length_le (by have:=List.getElem?_eq_none_iff.mp hn;omega)] at h
    rw[List.take_of_length_le (List.getElem?_eq_none_iff.mp hn)] at c
    exact absurd h c
   |some k'=>
    rw[ϖz hn,ϰv] at h
    by_cases e:k=k'
    ·rw[if_pos e] at h
     exact⟨n,by omega,by rw[hn,e],by omega⟩
    ·rw[if_neg e] at h;omega
theorem ϵJ {κ:Type} [DecidableEq κ] {ks:List κ}{i:Nat}{k:κ} (h:ks[i]?=some k) (hc:cnt (ks.take i) k < 2):i∈two ks:=by
 unfold two
 refine List.mem_filter.mpr ⟨List.mem_range.mpr (List.getElem?_eq_some_iff.mp h).1,?_⟩
 unfold twoB
 rw[h]
 exact decide_eq_true hc
theorem ϱJ {κ:Type} [DecidableEq κ] {ks:List κ}{i:Nat}{k:κ} (h:ks[i]?=some k):∃j,j∈two ks∧ks[j]?=some k:=by
 have:0 < cnt (ks.take (i+1)) k:=by rw[ϖz h,ϰv,if_pos rfl];omega
 obtain⟨j,_,h1,h2⟩:=ϲ8 this
 exact⟨j,ϵJ h1 (by omega),h1⟩
theorem ϲY {κ:Type} [DecidableEq κ] {ks:List κ}{i:Nat}{k:κ} (h:ks[i]?=some k) (hn:i∉two ks):∃j1 j2,j1≠j2∧j1∈two ks∧j2∈two ks∧ks[j1]?=some k∧ks[j2]?=some k:=by
 have hc:¬ cnt (ks.take i) k < 2:=fun z=>hn (ϵJ h z)
 obtain⟨j1,_,a1,a2⟩:=ϲ8 (show 0 < cnt (ks.take i) k by omega)
 obtain⟨j2,_,b1,b2⟩:=ϲ8 (show 1 < cnt (ks.take i) k by omega)
 exact⟨j1,j2,fun z=>by rw[z] at a2;omega,ϵJ a1 (by omega),ϵJ b1 (by omega),a1,b1⟩
theorem ϡL {α:Type}{xs:List α} (nd:xs.Nodup) {i j:Nat}{x:α} (h:xs[i]?=some x) (k:xs[j]?=some x):i=j:=
 (List.getElem?_inj (List.getElem?_eq_some_iff.mp h).1 nd).mp (h.trans k.symm)
theorem dm_in {N:Int}{M:List Mk}{o o2:Nat} (h:o∈twM M) (k:o2∈twM M):dmk N M o o2∈dmL N M:=List.mem_flatMap.mpr ⟨o,h,List.mem_map_of_mem k⟩
open Classical in
theorem sgs_in {S:List Stp}:∀(n:Nat) (l:List Nat),l.length=n→∀o∈l,sgK S o∈sgs S l:=by
 intro n
 induction n with
 |zero=>intro l h o ho;rw[List.length_eq_zero_iff.mp h] at ho;cases ho
 |succ n ih=>
  intro l h o ho
  have hne:l≠[]:=fun z=>by rw[z] at h;cases h
  rw[← List.dropLast_concat_getLast hne] at ho⊢
  rw[ϰ3]
  have hd:=ih l.dropLast (by rw[List.length_dropLast,h];rfl)
  rcases List.mem_append.mp ho with ho|ho
  ·split
   ·exact hd o ho
   ·exact List.mem_append_left _ (hd o ho)
  ·rw[List.mem_singleton] at ho
   rw[ho]
   split
   ·assumption
   ·exact List.mem_append_right _ (List.mem_singleton.mpr rfl)
theorem ds_in {N:Int}{S:List Stp}{o o2:Nat} (h:o∈twS S) (k:o2∈twS S) (e:sgK S o=sgK S o2):dsk N S o o2∈dsL N S:=by
 unfold dsL dsG
 refine List.mem_flatMap.mpr ⟨sgK S o,sgs_in _ _ rfl o h,List.mem_flatMap.mpr ⟨o,List.mem_filter.mpr ⟨h,by simp⟩,List.mem_map_of_mem (List.mem_filter.mpr ⟨k,by simp[e]⟩)⟩⟩
theorem ϛX {a b:Nat}{x y:Str} (h:(⟨#[a]⟩:Str)++x=⟨#[b]⟩++y):a=b∧x=y:=by
 have:=congrArg cl h
 rw[ϖS,ϖS] at this
 have h2:a::cl x=b::cl y:=this
 exact⟨(List.cons.inj h2).1,ϕq (List.cons.inj h2).2⟩
theorem ϟu {b:Nat}{y:Str} (h:Str.ofString ""=(⟨#[b]⟩:Str)++y):False:=by
 have:=congrArg Str.length h
 rw[ϑi] at this
 have e1:(Str.ofString "").length=0:=rfl
 have e2:(⟨#[b]⟩:Str).length=1:=rfl
 omega
theorem ϝW {S:List Stp}{q:Nat}{t:Stp} (h:S[q]?=some t):(S.map ϕu)[q]?=some (ϕu t):=by rw[List.getElem?_map,h];rfl
theorem ϵQ {t u:Stp} (h:ϕu t=ϕu u):t.1=u.1∧t.2.1=u.2.1∧t.2.2.2=u.2.2.2:=by
 unfold ϕu at h
 injection h with h1 h
 injection h with h2 h
 injection h with h3 h
 exact⟨by injection h1,by injection h2,by injection h3⟩
theorem ϡ9 {S:List Stp}{q:Nat}{k:List Key} (h:(S.map ϕu)[q]?=some k):∃t,S[q]?=some t∧ϕu t=k:=by
 rw[List.getElem?_map] at h
 obtain⟨t,h1,h2⟩:=Option.map_eq_some_iff.mp h
 exact⟨t,h1,h2⟩
theorem ϰo {M:List Mk}{q:Nat}{k:Int} (h:(M.map (·.1))[q]?=some k):∃t,M[q]?=some t∧t.1=k:=by
 rw[List.getElem?_map] at h
 obtain⟨t,h1,h2⟩:=Option.map_eq_some_iff.mp h
 exact⟨t,h1,h2⟩
theorem ϝE {S:List Stp}{q:Nat}{t:Stp} (h:S[q]?=some t):sA S q=t:=by unfold sA;rw[h];rfl
theorem ϕM {M:List Mk}{q:Nat}{t:Mk} (h:M[q]?=some t):mA M q=t:=by unfold mA;rw[h];rfl
section single
variable {s:Scr}
theorem ϛJ {o o2:Nat}{t u:Stp} (h:o∈twS s.steps) (k:o2∈twS s.steps) (ht:s.steps[o]?=some t) (hu:s.steps[o2]?=some u) (e:t.2.1=u.2.1):∃p,DP (dS s) (enc (nOf s) t.1 u.1) [p] (enc (nOf s) t.2.2.2 u.2.2.2) t.2.2.1 u.2.2.1:=by
 have hm:=ds_in (N:=nOf s) h k (by unfold sgK;rw[ϝE ht,ϝE hu,e])
 obtain⟨p,hp⟩:=List.getElem?_of_mem hm
 have:=DP.one (S:=dS s) hp
 unfold dsk at this
 rw[ϝE ht,ϝE hu] at this
 exact⟨p,this⟩
theorem diag {r r':Int}{qs:List Nat}{x w:Str} (h:OP s.steps r qs r' x w):∃ps w2,DP (dS s) (enc (nOf s) r r) ps (enc (nOf s) r' r') w2 w2:=by
 induction h with
 |nil r=>exact⟨[],"",.nil _⟩
 |@cons q t qs r x w h y ih=>
  obtain⟨ps,w2,hp⟩:=ih
  obtain⟨q0,h1,h2⟩:=ϱJ (ϝW h)
  obtain⟨t0,h3,h4⟩:=ϡ9 h2
  obtain⟨e1,e2,e3⟩:=ϵQ h4
  obtain⟨p,hd⟩:=ϛJ h1 h1 h3 h3 rfl
  rw[e1,e3] at hd
  exact⟨[p]++ps,t0.2.2.1++w2,hd.app hp⟩
theorem lift (n:Nice s) {r1 r1':Int}{qs:List Nat}{x a:Str} (h:OP s.steps r1 qs r1' x a):∀{r2 r2':Int}{qs':List Nat}{x' c:Str},OP s.steps r2 qs' r2' x' c→x=x'→(∀ q∈qs,q∈twS s.steps)→(∀ q∈qs',q∈twS s.steps)→∃ps,DP (dS s) (enc (nOf s) r1 r2) ps (enc (nOf s) r1' r2') a c:=by
 induction h with
 |nil r=>
  intro r2 r2' qs' x' c k e _ _
  cases k with
  |nil=>exact⟨[],.nil _⟩
  |@cons q t qs _ x w k y=>
   obtain⟨ch,hc⟩:=n.sg t (List.mem_of_getElem? k)
   rw[hc] at e
   exact(ϟu e).elim
 |@cons q t qs r x w h y ih=>
  intro r2 r2' qs' x' c k e k1 k2
  obtain⟨ch,hc⟩:=n.sg t (List.mem_of_getElem? h)
  cases k with
  |nil=>rw[hc] at e;exact(ϟu e.symm).elim
  |@cons q' t' qs' _ x' w' k z=>
   obtain⟨ch',hc'⟩:=n.sg t' (List.mem_of_getElem? k)
   rw[hc,hc'] at e
   obtain⟨e1,e2⟩:=ϛX e
   obtain⟨ps,hp⟩:=ih z e2 (fun q hq=>k1 q (List.mem_cons_of_mem _ hq)) (fun q hq=>k2 q (List.mem_cons_of_mem _ hq))
   obtain⟨p,hd⟩:=ϛJ (k1 q (List.mem_cons_self ..)) (k2 q' (List.mem_cons_self ..)) h k (by rw[hc,hc',e1])
   exact⟨[p]++ps,hd.app hp⟩
theorem ϱA (h:TwoR s none) {o o2 k k2:Nat}{ps:List Nat}{a c:Str} (ho:o∈twM s.begins) (ho2:o2∈twM s.begins) (hk:k∈twM s.ends) (hk2:k2∈twM s.ends) (hp:DP (dS s) (enc (nOf s) (mA s.begins o).1 (mA s.begins o2).1) ps (enc (nOf s) (mA s.ends k).1 (mA s.ends k2).1) a c):(mA s.begins o).2++a++(mA s.ends k).2=(mA s.begins o2).2++c++(mA s.ends k2).2:=by
 obtain⟨T,T2,ow,t1,t2,hw,_,e⟩:=h
 cases ow with
 |some w=>cases e
 |none=>exact ϝp t1 t2 hw (dm_in (N:=nOf s) ho ho2) (dm_in (N:=nOf s) hk hk2) hp
theorem ϵe (n:Nice s) (h:TwoR s none) {i j:Nat}{m e:Mk}{qs:List Nat}{x w:Str} (hm:s.begins[i]?=some m) (he:s.ends[j]?=some e) (hp:OP s.steps m.1 qs e.1 x w):i∈twM s.begins:=by
 refine Classical.byContradiction fun hn=>?_
 obtain⟨j1,j2,hne,a1,a2,b1,b2⟩:=ϲY (ks:=s.begins.map fun m:Mk=>m.1) (i:=i) (k:=m.1) (by rw[List.getElem?_map,hm];rfl) hn
 obtain⟨m1,c1,d1⟩:=ϰo b1
 obtain⟨m2,c2,d2⟩:=ϰo b2
 obtain⟨k,hk,hk2⟩:=ϱJ (ks:=s.ends.map fun m:Mk=>m.1) (i:=j) (k:=e.1) (by rw[List.getElem?_map,he];rfl)
 obtain⟨e0,c3,d3⟩:=ϰo hk2
 obtain⟨ps,w2,hd⟩:=diag hp
 have:=ϱA h a1 a2 hk hk (ps:=ps) (a:=w2) (c:=w2) (by rw[ϕM c1,ϕM c2,ϕM c3,d1,d2,d3];exact hd)
 rw[ϕM c1,ϕM c2,ϕM c3] at this
 have e1:=ϡq (ϡq this)
 have:m1=m2:=Prod.ext (d1.trans d2.symm) e1
 rw[← this] at c2
 exact hne (ϡL n.nb c1 c2)
theorem ϡr (n:Nice s) (h:TwoR s none) {i j:Nat}{m e:Mk}{qs:List Nat}{x w:Str} (hm:s.begins[i]?=some m) (he:s.ends[j]?=some e) (hp:OP s.steps m.1 qs e.1 x w):j∈twM s.ends:=by
 refine Classical.byContradiction fun hn=>?_
 obtain⟨j1,j2,hne,a1,a2,b1,b2⟩:=ϲY (ks:=s.ends.map fun m:Mk=>m.1) (i:=j) (k:=e.1) (by rw[List.getElem?_map,he];rfl) hn
 obtain⟨m1,c1,d1⟩:=ϰo b1
 obtain⟨m2,c2,d2⟩:=ϰo b2
 obtain⟨k,hk,hk2⟩:=ϱJ (ks:=s.begins.map fun m:Mk=>m.1) (i:=i) (k:=m.1) (by rw[List.getElem?_map,hm];rfl)
 obtain⟨e0,c3,d3⟩:=ϰo hk2
 obtain⟨ps,w2,hd⟩:=diag hp
 have:=ϱA h hk hk a1 a2 (ps:=ps) (a:=w2) (c:=w2) (by rw[ϕM c1,ϕM c2,ϕM c3,d1,d2,d3];exact hd)
 rw[ϕM c1,ϕM c2,ϕM c3] at this
 have e1:=ϟU this
 have:m1=m2:=Prod.ext (d1.trans d2.symm) e1
 rw[← this] at c2
 exact hne (ϡL n.ne c1 c2)
theorem OP.split {S:List Stp}{r r':Int}{qs:List Nat}{x w:Str} (h:OP S r qs r' x w):∀q,q∈qs→∃t q1 q2 x1 x2 w1 w2,S[q]?=some t∧OP S r q1 t.1 x1 w1∧OP S t.2.2.2 q2 r' x2 w2:=by
 induction h with
 |nil r=>exact fun q hq=>nomatch hq
 |@cons q t qs r x w h y ih=>
  intro q' hq
  rcases List.mem_cons.mp hq with rfl|hq
  ·exact⟨t,[],qs,"",x,"",w,h,.nil _,y⟩
  ·obtain⟨t',q1,q2,x1,x2,w1,w2,a,b,c⟩:=ih q' hq
   exact⟨t',q::q1,q2,_,x2,_,w2,a,.cons h b,c⟩
theorem ϵ0 (n:Nice s) (h:TwoR s none) {i j:Nat}{m e:Mk}{qs:List Nat}{x w:Str} (hm:s.begins[i]?=some m) (he:s.ends[j]?=some e) (hp:OP s.steps m.1 qs e.1 x w):∀q∈qs,q∈twS s.steps:=fun q hq=>by
 refine Classical.byContradiction fun hn=>?_
 obtain⟨t,q1,q2,x1,x2,w1,w2,hqt,hp1,hp2⟩:=hp.split q hq
 obtain⟨j1,j2,hne,a1,a2,b1,b2⟩:=ϲY (ϝW hqt) hn
 obtain⟨u1,c1,d1⟩:=ϡ9 b1
 obtain⟨u2,c2,d2⟩:=ϡ9 b2
 obtain⟨y1,y2,y3⟩:=ϵQ d1
 obtain⟨z1,z2,z3⟩:=ϵQ d2
 obtain⟨k,hk,hk2⟩:=ϱJ (ks:=s.begins.map fun m:Mk=>m.1) (i:=i) (k:=m.1) (by rw[List.getElem?_map,hm];rfl)
 obtain⟨m0,c3,d3⟩:=ϰo hk2
 obtain⟨k',hk',hk2'⟩:=ϱJ (ks:=s.ends.map fun m:Mk=>m.1) (i:=j) (k:=e.1) (by rw[List.getElem?_map,he];rfl)
 obtain⟨e0,c4,d4⟩:=ϰo hk2'
 obtain⟨ps,v1,hd1⟩:=diag hp1
 obtain⟨ps2,v2,hd2⟩:=diag hp2
 obtain⟨p,hd⟩:=ϛJ a1 a2 c1 c2 (y2.trans z2.symm)
 rw[y1,z1,y3,z3] at hd
 have:=ϱA h hk hk hk' hk' (ps:=ps++[p]++ps2) (a:=v1++u1.2.2.1++v2) (c:=v1++u2.2.2.1++v2) (by rw[ϕM c3,ϕM c4,d3,d4];exact(hd1.app hd).app hd2)
 have e1:=ϟU (ϡq (ϟU (ϡq this)))
 have:u1=u2:=Prod.ext (y1.trans z1.symm) (Prod.ext (y2.trans z2.symm) (Prod.ext e1 (y3.trans z3.symm)))
 rw[← this] at c2
 exact hne (ϡL n.ns c1 c2)
theorem ϝh (n:Nice s) (h:TwoR s none):ϕG s:=by
 rintro X Y x u v ⟨m,e,w,hm,he,hp,rfl⟩ ⟨m',e',w',hm',he',hp',rfl⟩
 obtain⟨ps,hd⟩:=lift n hp hp' rfl (ϵ0 n h hm he hp) (ϵ0 n h hm' he' hp')
 have:=ϱA h (ϵe n h hm he hp) (ϵe n h hm' he' hp') (ϡr n h hm he hp) (ϡr n h hm' he' hp') (ps:=ps) (a:=w) (c:=w') (by rw[ϕM hm,ϕM hm',ϕM he,ϕM he'];exact hd)
 rw[ϕM hm,ϕM hm',ϕM he,ϕM he'] at this
 exact this
end single
def ϱg:Sp:=fun vs H Q _=>∃c k:Int,vs=[.int c,.int k]∧∀n:Int,0≤n→n < 2147483587→Q (.int n) H
def ϲ_ (K:Frag):Sp:=fun vs H Q _=>∃(a:Addr) (ns:List Int) (k salt:Int),vs=[.ref a,.int k,.int salt]∧SqL K H a (ns.map V.int)∧0≤k∧0≤salt∧salt≤8000∧∀n:Int,Q (.int n) H
def isLet (v:V):Prop:=∃x:Str,v=.str x∧1≤x.length∧x.length≤26∧∀c∈cl x,97≤c∧c≤122
def ϱw:Sp:=fun vs H Q _=>∃n:Int,vs=[.int n]∧∀(g:Str) (H':Hp),SgnOk g→Same H H'→Q (.str g) H'
theorem abc_cl:cl ("abcdefghijklmnopqrstuvwxyz":Str)=List.range' 97 26:=by decide +kernel
theorem abc_len:("abcdefghijklmnopqrstuvwxyz":Str).length=26:=by decide +kernel
theorem abc_at {j:Int} (h0:0≤j) (h1:j < 26):atI (cl ("abcdefghijklmnopqrstuvwxyz":Str)) j=some (97+j.toNat):=by
 obtain⟨n,rfl⟩:=Int.eq_ofNat_of_zero_le h0
 refine ϖQ ?_
 rw[abc_cl,List.getElem?_range' (by omega)]
 simp
def sgC (m:Int) (k:Nat):Nat:=97+((m+7*(k:Int)) % 26).toNat
theorem ϟr:∀cs:List Nat,cl (catS (cs.map fun c=>(⟨#[c]⟩:Str)))=cs
 |[]=>by decide +kernel
 |c::cs=>by
  have go:∀(ys:List Str) (a:Str),cl (ys.foldl (·++·) a)=cl a++cl (catS ys):=by
   intro ys
   induction ys with
   |nil=>intro a;show cl a=cl a++cl ("":Str);rw[show cl ("":Str)=[] by decide +kernel,List.append_nil]
   |cons y ys ih=>
    intro a
    have h1:=ih (a++y)
    have h2:=ih (""++y)
    show cl (ys.foldl (·++·) (a++y))=cl a++cl (ys.foldl (·++·) (""++y))
    rw[h1,h2,ϖS,ϖS,show cl ("":Str)=[] by decide +kernel,List.nil_append,List.append_assoc]
  rw[List.map_cons]
  show cl ((cs.map fun c=>(⟨#[c]⟩:Str)).foldl (·++·) (""++⟨#[c]⟩))=_
  rw[go,ϟr cs,ϖS,show cl ("":Str)=[] by decide +kernel,ϝ7];rfl
theorem ϵ_ (m:Int):∀n:Nat,n≤5→((List.range n).map (sgC m)).Nodup
 |0,_=>by simp
 |n+1,h=>by
  rw[List.range_succ,List.map_append]
  refine ϑu (ϵ_ m n (by omega)) fun hm=>?_
  obtain⟨k,hk,e⟩:=List.mem_map.mp hm
  have:=List.mem_range.mp hk
  unfold sgC at e
  have h1:=Int.emod_nonneg (m+7*(k:Int)) (show(26:Int)≠0 by decide)
  have h2:=Int.emod_nonneg (m+7*(n:Int)) (show(26:Int)≠0 by decide)
  omega
theorem sg_ok (m:Int) {n:Nat} (h1:1≤n) (h5:n≤5):SgnOk (catS (((List.range n).map (sgC m)).map fun c=>(⟨#[c]⟩:Str))):=by
 have e:=ϟr ((List.range n).map (sgC m))
 refine⟨?_,?_,?_,?_⟩
 ·rw[← ϖR,e,List.length_map,List.length_range];exact h1
 ·rw[← ϖR,e,List.length_map,List.length_range];exact h5
 ·rw[e];exact ϵ_ m n h5
 ·rw[e]
  intro c hc
  obtain⟨k,_,rfl⟩:=List.mem_map.mp hc
  unfold sgC
  have h1:=Int.emod_nonneg (m+7*(k:Int)) (show(26:Int)≠0 by decide)
  have h2:=Int.emod_lt_of_pos (m+7*(k:Int)) (show(0:Int) < 26 by decide)
  omega
def keyT (t:Stp):List Key:=[Sum.inl t.1,Sum.inr t.2.1]
def EnS (K:Frag) (H:Hp) (t:Stp) (kv:List Key×V):Prop:=kv.1=keyT t∧∃b,kv.2=.ref b∧SqT K H b [.str t.2.2.1,.int t.2.2.2]
theorem EnS.gt {K:Frag}{H H':Hp}{t:Stp}{kv:List Key×V} (g:GT H H'):EnS K H t kv→EnS K H' t kv:=fun⟨e,b,e2,h⟩=>⟨e,b,e2,g.seqT h⟩
theorem ϵi {κ α:Type} [DecidableEq κ] {R:α→κ×V→Prop}{k:κ}{v:V}{t:α} (ht:R t (k,v)) {S:List α}{kvs:List (κ×V)} (h:Paired R S kvs):∃S',Paired R S' (putK kvs k v)∧∀x∈S',x∈S∨x=t:=by
 unfold putK
 split
 ·have go:∀{S:List α}{kvs:List (κ×V)},Paired R S kvs→∃S',Paired R S' (kvs.map fun kv=>if kv.1=k then (kv.1,v) else kv)∧∀x∈S',x∈S∨x=t:=fun h=>by
   induction h with
   |nil=>exact⟨[],.nil,fun x hx=>nomatch hx⟩
   |@cons a kv as ks r _ ih=>
    obtain⟨S',h1,h2⟩:=ih
    by_cases c:kv.1=k
    ·refine⟨t::S',?_,fun x hx=>?_⟩
     ·rw[List.map_cons,if_pos c,c];exact .cons ht h1
     ·rcases List.mem_cons.mp hx with z|z
      ·exact .inr z
      ·exact(h2 x z).imp (List.mem_cons_of_mem _) id
    ·refine⟨a::S',?_,fun x hx=>?_⟩
     ·rw[List.map_cons,if_neg c];exact .cons r h1
     ·rcases List.mem_cons.mp hx with z|z
      ·exact .inl (z▸List.mem_cons_self ..)
      ·exact(h2 x z).imp (List.mem_cons_of_mem _) id
  exact go h
 ·exact⟨S++[t],ϖt h (.cons ht .nil),fun x hx=>(List.mem_append.mp hx).imp id List.mem_singleton.mp⟩
theorem ϛd {κ:Type} [DecidableEq κ] {kvs:List (κ×V)}{k:κ}{v:V} (h:(kvs.map (·.1)).Nodup):((putK kvs k v).map (·.1)).Nodup:=by
 rw[ϱt]
 unfold addM
 split
 ·exact h
 ·exact ϑu h ‹_›
theorem ϝ3 {κ:Type} [DecidableEq κ] (kvs:List (κ×V)) (k:κ) (v:V):(putK kvs k v).length≤kvs.length+1:=by
 have:=congrArg List.length (ϱt kvs k v)
 rw[List.length_map] at this
 rw[this]
 unfold addM
 split<;>simp
def EnM (m:Mk) (kv:Key×V):Prop:=kv=(Sum.inl m.1,.str m.2)
theorem ϱ3 {κ α:Type}{R:α→κ×V→Prop}{f:α→κ} (hf:∀a kv,R a kv→kv.1=f a) {S:List α}{kvs:List (κ×V)} (h:Paired R S kvs):kvs.map (·.1)=S.map f:=by
 induction h with
 |nil=>rfl
 |cons r _ ih=>rw[List.map_cons,List.map_cons,hf _ _ r,ih]
structure PlI (K:Frag) (H0 H:Hp) (ds de:Addr) (g:Str) (r:Int) (n:Nat):Prop where
 same:Same H0 H
 ex:∃(S:List Stp) (kvs:List (List Key×V)) (E:List Mk) (kve:List (Key×V)),H ds=some (.dT kvs)∧H de=some (.dK kve)∧Paired (EnS K H) S kvs∧Paired EnM E kve∧(kvs.map (·.1)).Nodup∧(kve.map (·.1)).Nodup∧kvs.length≤n∧kve.length≤n ∧
  (∀ t∈S,0≤t.1∧t.1 < r∧(∃ c∈cl g,t.2.1=⟨#[c]⟩)∧Wd t.2.2.1∧0≤t.2.2.2∧t.2.2.2 < r)∧∀m∈E,0≤m.1∧m.1 < r∧Wd m.2
theorem PlI.mono {K:Frag}{H0 H H':Hp}{ds de:Addr}{g:Str}{r:Int}{n m:Nat} (h:PlI K H0 H ds de g r n) (s:Same H H') (le:n≤m):PlI K H0 H' ds de g r m:=by
 obtain⟨s0,S,kvs,E,kve,h1,h2,h3,h4,h5,h6,h7,h8,h9,h10⟩:=h
 exact⟨s0.trans s,S,kvs,E,kve,s _ _ h1,s _ _ h2,ϖb (fun _ _=>EnS.gt (GT.of s)) h3,h4,h5,h6,Nat.le_trans h7 le,Nat.le_trans h8 le,h9,h10⟩
theorem ϵ3 {α:Type}{xs:List α} (h:xs.length≤1):xs.Nodup:=by
 match xs,h with
 |[],_=>exact List.nodup_nil
 |[x],_=>simp
 |x::y::r,h=>simp at h
theorem ϟ_ {K:Frag}{H:Hp}{S:List Stp}{kvs:List (List Key×V)} (h:Paired (EnS K H) S kvs) (nd:(kvs.map (·.1)).Nodup):(S.map fun t=>(t.1,t.2.1)).Nodup:=by
 rw[ϱ3 (f:=keyT) (fun t kv h=>h.1) h] at nd
 have e:S.map keyT=(S.map fun t=>(t.1,t.2.1)).map (fun p=>[Sum.inl p.1,Sum.inr p.2]):=by rw[List.map_map];rfl
 rw[e] at nd
 exact List.Pairwise.of_map _ (fun a b z y=>z (by rw[y])) nd
inductive Rc (rs:List Int) (ms:List (Int×Int)):Int→Prop
 |base {r:Int} (h:r∈rs):Rc rs ms r
 |step {m:Int×Int} (h:m∈ms) (q:Rc rs ms m.1):Rc rs ms m.2
def ϲ2 (K:Frag):Sp:=fun vs H Q _=>∃(a:Addr) (ns:List Int) (salt most:Int),vs=[.ref a,.int salt,.int most]∧SqL K H a (ns.map V.int)∧ns.length≤21∧0≤salt∧salt≤8000∧0≤most∧most≤14∧∀v H' s pb ps pe,NewS K H H' false 20 s v pb ps pe→s.rooms≤most→Q v H'
def ϱs (K:Frag):Sp:=fun vs H Q _=>∃(a:Addr) (ns:List Int) (salt most:Int),vs=[.ref a,.int salt,.int most]∧SqL K H a (ns.map V.int)∧ns.length≤21∧0≤salt∧salt≤8000∧0≤most∧most≤14∧∀v H' s pb ps pe,NewS K H H' true 20 s v pb ps pe→s.rooms≤most→Q v H'
structure Dr (s:Scr):Prop where
 n:Nice s
 wb:∀m∈s.begins,m.2.length≤40
 ws:∀t∈s.steps,t.2.2.1.length≤40
 we:∀m∈s.ends,m.2.length≤40
 lb:s.begins.length≤40
 ls:s.steps.length≤80
 le:s.ends.length≤40
 g1:1≤s.signs.length
 g5:s.signs.length≤5
 gs:∀t∈s.steps,∃c∈cl s.signs,t.2.1=⟨#[c]⟩
theorem Dr.sh {s:Scr} (h:Dr s):ϟ6 s:=⟨fun m hm=>by have:=h.wb m hm;omega,fun t ht=>⟨by obtain⟨c,e⟩:=h.n.sg t ht;rw[e];exact(show 1≤100 by decide),by have:=h.ws t ht;omega⟩,fun m hm=>by have:=h.we m hm;omega⟩
theorem Dr.of {s:Scr}{pl:Bool} (o:OkS pl s 20) (r0:0≤s.rooms) (r8:s.rooms≤8) (g1:1≤s.signs.length) (g5:s.signs.length≤5):Dr s:=
 ⟨⟨⟨by have:=o.lb;omega,by have:=o.ls;omega,by have:=o.le;omega,by omega,fun m hm=>⟨(o.mb m hm).1,(o.mb m hm).2.1⟩,fun t ht=>⟨(o.ms t ht).1,(o.ms t ht).2.1,(o.ms t ht).2.2.2.2.1,(o.ms t ht).2.2.2.2.2⟩,fun m hm=>⟨(o.me m hm).1,(o.me m hm).2.1⟩⟩,r0,r8,o.nb,o.ns,o.ne,fun t ht=>let ⟨c,_,e⟩:=(o.ms t ht).2.2.1;⟨c,e⟩⟩,
  fun m hm=>(o.mb m hm).2.2.1,fun t ht=>(o.ms t ht).2.2.2.1.1,fun m hm=>(o.me m hm).2.2.1,by have:=o.lb;omega,by have:=o.ls;omega,by have:=o.le;omega,g1,g5,fun t ht=>(o.ms t ht).2.2.1⟩
def ϲ0 (K:Frag):Sp:=fun vs H Q _=>∃(a:Addr) (ns:List Int),vs=[.ref a]∧SqL K H a (ns.map V.int)∧ns.length≤21∧∀v H' s pb ps pe,Same H H'→ScV K H' s v pb ps pe→Dr s→Q v H'
def ϱQ (K:Frag):Sp:=fun vs H Q _=>∃(a:Addr) (ns:List Int) (salt:Int),vs=[.ref a,.int salt]∧SqL K H a (ns.map V.int)∧ns.length≤21∧0≤salt∧salt≤8000∧∀v H' s pb ps pe,Same H H'→ScV K H' s v pb ps pe→Dr s→Q v H'
def ϵs (K:Frag):Sp:=fun vs H Q _=>∃(a:Addr) (ns:List Int) (v:V) (s:Scr) (pb ps pe:Addr) (salt:Int),vs=[.ref a,v,.int salt]∧SqL K H a (ns.map V.int)∧ScV K H s v pb ps pe∧Dr s∧∀v' H' s' pb' ps' pe',Same H H'→ScV K H' s' v' pb' ps' pe'→Dr s'→Q v' H'
def ϝl (K:Frag):Sp:=fun vs H Q _=>∃(a:Addr) (ns:List Int),vs=[.ref a]∧SqL K H a (ns.map V.int)∧ns.length≤63∧∀H',Q (.bl true) H'
def pre (x:Str) (i:Nat):Str:=⟨((cl x).take i).toArray⟩
theorem ϰt {α:Type}{F:α→V→Prop}{a:α}{v:V} (h:F a v):∀{xs:List α}{ys:List V} (i:Nat),Paired F xs ys→Paired F (xs.set i a) (ys.set i v)
 |[],_,i,p=>by cases p;exact .nil
 |x::xs,_,0,p=>by cases p with|cons p1 p2=>exact .cons h p2
 |x::xs,_,i+1,p=>by cases p with|cons p1 p2=>exact .cons p1 (ϰt h i p2)
theorem ϰX {α:Type}{a:α}:∀{xs:List α} (i:Nat),xs.Nodup→a∉xs→(xs.set i a).Nodup
 |[],_,_,_=>List.nodup_nil
 |x::xs,0,nd,h=>by
  rw[List.nodup_cons] at nd
  rw[List.set_cons_zero]
  exact List.nodup_cons.mpr ⟨fun z=>h (List.mem_cons_of_mem _ z),nd.2⟩
 |x::xs,i+1,nd,h=>by
  rw[List.nodup_cons] at nd
  rw[List.set_cons_succ]
  refine List.nodup_cons.mpr ⟨fun z=>?_,ϰX i nd.2 fun z=>h (List.mem_cons_of_mem _ z)⟩
  rcases List.mem_or_eq_of_mem_set z with z|z
  ·exact nd.1 z
  ·exact h (by rw[← z];exact List.mem_cons_self ..)
theorem ϰg {α:Type}{P:α→Prop}{xs:List α}{i:Nat}{a:α} (h:∀x∈xs,P x) (ha:P a):∀x∈xs.set i a,P x:=fun x hx=>by
 rcases List.mem_or_eq_of_mem_set hx with hx|hx
 ·exact h x hx
 ·rw[hx];exact ha
theorem Dr.setB {g:Str}{r:Int}{B:List Mk}{S:List Stp}{E:List Mk} (h:Dr ⟨g,r,B,S,E⟩) {i:Nat}{m:Mk} (hr:0≤m.1∧m.1 < r) (hw:m.2.length≤40) (hn:m∉B):Dr ⟨g,r,B.set i m,S,E⟩:=
 ⟨⟨⟨by show(B.set i m).length≤999;rw[List.length_set];exact h.n.ok.lb,h.n.ok.ls,h.n.ok.le,h.n.ok.lr,ϰg h.n.ok.mb hr,h.n.ok.ms,h.n.ok.me⟩,h.n.r0,h.n.r8,ϰX i h.n.nb hn,h.n.ns,h.n.ne,h.n.sg⟩,ϰg h.wb hw,h.ws,h.we,by show(B.set i m).length≤40;rw[List.length_set];exact h.lb,h.ls,h.le,h.g1,h.g5,h.gs⟩
theorem Dr.setE {g:Str}{r:Int}{B:List Mk}{S:List Stp}{E:List Mk} (h:Dr ⟨g,r,B,S,E⟩) {i:Nat}{m:Mk} (hr:0≤m.1∧m.1 < r) (hw:m.2.length≤40) (hn:m∉E):Dr ⟨g,r,B,S,E.set i m⟩:=
 ⟨⟨⟨h.n.ok.lb,h.n.ok.ls,by show(E.set i m).length≤999;rw[List.length_set];exact h.n.ok.le,h.n.ok.lr,h.n.ok.mb,h.n.ok.ms,ϰg h.n.ok.me hr⟩,h.n.r0,h.n.r8,h.n.nb,h.n.ns,ϰX i h.n.ne hn,h.n.sg⟩,h.wb,h.ws,ϰg h.we hw,h.lb,h.ls,by show(E.set i m).length≤40;rw[List.length_set];exact h.le,h.g1,h.g5,h.gs⟩
theorem Dr.setS {g:Str}{r:Int}{B:List Mk}{S:List Stp}{E:List Mk} (h:Dr ⟨g,r,B,S,E⟩) {i:Nat}{t:Stp} (hr:0≤t.1∧t.1 < r∧0≤t.2.2.2∧t.2.2.2 < r) (hs:∃c∈cl g,t.2.1=⟨#[c]⟩) (hw:t.2.2.1.length≤40) (hn:t∉S):Dr ⟨g,r,B,S.set i t,E⟩:=
 ⟨⟨⟨h.n.ok.lb,by show(S.set i t).length≤99999;rw[List.length_set];exact h.n.ok.ls,h.n.ok.le,h.n.ok.lr,h.n.ok.mb,ϰg h.n.ok.ms hr,h.n.ok.me⟩,h.n.r0,h.n.r8,h.n.nb,ϰX i h.n.ns hn,h.n.ne,ϰg h.n.sg (let ⟨c,_,e⟩:=hs;⟨c,e⟩)⟩,h.wb,ϰg h.ws hw,h.we,h.lb,by show(S.set i t).length≤80;rw[List.length_set];exact h.ls,h.le,h.g1,h.g5,ϰg h.gs hs⟩
theorem ϟD (M:List Mk):eqD (.lst (M.map dMk)) (.lst [])=decide (M=[]):=by
 cases M with
 |nil=>rfl
 |cons i fr=>rfl
theorem ϛw (M:List Stp):eqD (.lst (M.map dSt)) (.lst [])=decide (M=[]):=by
 cases M with
 |nil=>rfl
 |cons i fr=>rfl
theorem ϟE {n j:Nat} (h:j < n):ixN n (j:Int)=some j:=by
 unfold ixN
 simp;omega
theorem ϛT {z:Str}:(Txt.slice z none (some 40)).length≤40:=by
 rw[← ϖR,ϵx,List.length_take,HT.sIx_none,show HT.sIx z.length z.length (some 40)=min 40 z.length from HT.sIx_nat _ _ 40]
 omega
theorem ϲj {z:Str}{i j:Option Int}:(Txt.slice z i j).length≤z.length:=by
 rw[← ϖR,ϵx,List.length_take,List.length_drop,ϖR]
 omega
theorem nd_of {α β:Type}{f:α→β}{xs:List α} (h:(xs.map f).Nodup):xs.Nodup:=(List.pairwise_map.mp h).imp fun hab e=>hab (congrArg f e)
def tn (T:List Int) (a:Int):Int:=T[a.toNat]?.getD 0
structure Trn (R:Int) (T:List Int):Prop where
 len:(T.length:Int)=2*R
 nd:T.Nodup
 bd:∀r∈T,0≤r∧r < 2*R
theorem ϵy {R:Int}{T:List Int} (h:Trn R T) {a:Int} (h0:0≤a) (h1:a < 2*R):T[a.toNat]?=some (tn T a):=by
 have:a.toNat < T.length:=by have:=h.len;omega
 unfold tn
 rw[List.getElem?_eq_getElem this];rfl
theorem ϟ7 {R:Int}{T:List Int} (h:Trn R T) {a:Int} (h0:0≤a) (h1:a < 2*R):atI (T.map V.int) a=some (.int (tn T a)):=by
 have e:a=((a.toNat:Nat):Int):=by omega
 rw[e]
 exact ϖQ (by rw[List.getElem?_map,← e,ϵy h h0 h1];rfl)
theorem ϛv {R:Int}{T:List Int} (h:Trn R T) {a:Int} (h0:0≤a) (h1:a < 2*R):0≤tn T a∧tn T a < 2*R:=h.bd _ (List.mem_of_getElem? (ϵy h h0 h1))
theorem ϡ_ {R:Int}{T:List Int} (h:Trn R T) {a b:Int} (a0:0≤a) (a1:a < 2*R) (b0:0≤b) (b1:b < 2*R) (e:tn T a=tn T b):a=b:=by
 have h1:=ϵy h a0 a1
 have h2:=ϵy h b0 b1
 rw[← e] at h2
 have:=ϡL h.nd h1 h2
 omega
theorem cR {R m m':Int}{c c':Nat} (m0:0≤m) (m1:m < R) (n0:0≤m') (n1:m' < R) (hc:c < 2) (hc':c' < 2):(0≤m+(c:Int)*R∧m+(c:Int)*R < 2*R)∧(m+(c:Int)*R=m'+(c':Int)*R→m=m'∧c=c'):=by
 have h1:c=0∨c=1:=by omega
 have h2:c'=0∨c'=1:=by omega
 rcases h1 with rfl|rfl<;>rcases h2 with rfl|rfl<;>simp<;>omega
structure MI (R:Int) (T:List Int) (M:List Mk) (c i:Nat) (B:List Mk):Prop where
 nd:(B.map fun m:Mk=>m.1).Nodup
 ln:B.length≤20*c+i
 wl:∀m∈B,m.2.length≤40
 fr:∀m∈B,∃(c' j:Nat) (m0:Mk),M[j]?=some m0∧m.1=tn T (m0.1+(c':Int)*R)∧(c' < c∨(c'=c∧j < i))
theorem MI.nil {R:Int}{T:List Int}{M:List Mk}:MI R T M 0 0 []:=⟨List.nodup_nil,Nat.le_refl _,(fun _ h=>nomatch h),(fun _ h=>nomatch h)⟩
theorem MI.skip {R:Int}{T:List Int}{M:List Mk}{c i:Nat}{B:List Mk} (h:MI R T M c i B):MI R T M c (i+1) B:=
 ⟨h.nd,by have:=h.ln;omega,h.wl,fun m hm=>let ⟨c',j,m0,a,b,d⟩:=h.fr m hm;⟨c',j,m0,a,b,d.imp id fun z=>⟨z.1,by omega⟩⟩⟩
theorem MI.next {R:Int}{T:List Int}{M:List Mk}{c:Nat}{B:List Mk} (h:MI R T M c M.length B) (h2:M.length≤20):MI R T M (c+1) 0 B:=
 ⟨h.nd,by have:=h.ln;omega,h.wl,fun m hm=>let ⟨c',j,m0,a,b,d⟩:=h.fr m hm;⟨c',j,m0,a,b,.inl (by omega)⟩⟩
theorem MI.add {R:Int}{T:List Int} (ht:Trn R T) {M:List Mk}{c i:Nat} (hc:c < 2) {B:List Mk} (h:MI R T M c i B) (mb:∀m∈M,0≤m.1∧m.1 < R) (nd:(M.map fun m:Mk=>m.1).Nodup) {m:Mk} (hm:M[i]?=some m) {w:Str} (hw:w.length≤40):MI R T M c (i+1) (B++[(tn T (m.1+(c:Int)*R),w)]):=by
 have b:=mb m (List.mem_of_getElem? hm)
 refine⟨?_,by rw[List.length_append,List.length_singleton];have:=h.ln;omega,fun x hx=>?_,fun x hx=>?_⟩
 ·rw[List.map_append]
  refine ϑu h.nd fun z=>?_
  obtain⟨x,hx,e⟩:=List.mem_map.mp z
  obtain⟨c',j,m0,a1,a2,a3⟩:=h.fr x hx
  have b0:=mb m0 (List.mem_of_getElem? a1)
  have e:x.1=tn T (m.1+(c:Int)*R):=e
  rw[a2] at e
  have k:=cR (R:=R) (c:=c') (c':=c) b0.1 b0.2 b.1 b.2 (by omega) hc
  have k2:=cR (R:=R) (c:=c) (c':=c') b.1 b.2 b0.1 b0.2 hc (by omega)
  obtain⟨e1,e2⟩:=k.2 (ϡ_ ht k.1.1 k.1.2 k2.1.1 k2.1.2 e)
  have ej:j=i:=by
   have q1:(M.map fun m:Mk=>m.1)[j]?=some m0.1:=by rw[List.getElem?_map,a1];rfl
   have q2:(M.map fun m:Mk=>m.1)[i]?=some m0.1:=by rw[List.getElem?_map,hm,e1];rfl
   exact ϡL nd q1 q2
  omega
 ·rcases List.mem_append.mp hx with hx|hx
  ·exact h.wl x hx
  ·rw[List.mem_singleton.mp hx];exact hw
 ·rcases List.mem_append.mp hx with hx|hx
  ·obtain⟨c',j,m0,a,b,d⟩:=h.fr x hx
   exact⟨c',j,m0,a,b,d.imp id fun z=>⟨z.1,by omega⟩⟩
  ·rw[List.mem_singleton.mp hx]
   exact⟨c,i,m,hm,rfl,.inr ⟨rfl,by omega⟩⟩
structure SI (R:Int) (T:List Int) (M:List Stp) (c i d:Nat) (B:List Stp):Prop where
 nd:B.Nodup
 ln:B.length≤40*c+2*i+d
 wl:∀t∈B,t.2.2.1.length≤40
 fr:∀t∈B,∃(c' j d':Nat) (t0:Stp),d' < 2∧M[j]?=some t0∧t.1=tn T (t0.1+(c':Int)*R)∧t.2.1=t0.2.1∧t.2.2.2=tn T (t0.2.2.2+(d':Int)*R)∧(c' < c∨(c'=c∧(j < i∨(j=i∧d' < d))))
theorem SI.nil {R:Int}{T:List Int}{M:List Stp}:SI R T M 0 0 0 []:=⟨List.nodup_nil,Nat.le_refl _,(fun _ h=>nomatch h),(fun _ h=>nomatch h)⟩
theorem SI.skip {R:Int}{T:List Int}{M:List Stp}{c i d:Nat}{B:List Stp} (h:SI R T M c i d B):SI R T M c i (d+1) B:=
 ⟨h.nd,by have:=h.ln;omega,h.wl,fun t ht=>let ⟨c',j,d',t0,z,a,b,e,f,g⟩:=h.fr t ht;⟨c',j,d',t0,z,a,b,e,f,by omega⟩⟩
theorem SI.nexti {R:Int}{T:List Int}{M:List Stp}{c i:Nat}{B:List Stp} (h:SI R T M c i 2 B):SI R T M c (i+1) 0 B:=
 ⟨h.nd,by have:=h.ln;omega,h.wl,fun t ht=>let ⟨c',j,d',t0,z,a,b,e,f,g⟩:=h.fr t ht;⟨c',j,d',t0,z,a,b,e,f,by omega⟩⟩
theorem SI.next {R:Int}{T:List Int}{M:List Stp}{c:Nat}{B:List Stp} (h:SI R T M c M.length 0 B) (h2:M.length≤20):SI R T M (c+1) 0 0 B:=
 ⟨h.nd,by have:=h.ln;omega,h.wl,fun t ht=>let ⟨c',j,d',t0,z,a,b,e,f,g⟩:=h.fr t ht;⟨c',j,d',t0,z,a,b,e,f,.inl (by omega)⟩⟩
theorem SI.add {R:Int}{T:List Int} (ht:Trn R T) {M:List Stp}{c i d:Nat} (hc:c < 2) (hd:d < 2) {B:List Stp} (h:SI R T M c i d B) (mb:∀t∈M,0≤t.1∧t.1 < R∧0≤t.2.2.2∧t.2.2.2 < R) (nd:(M.map fun t:Stp=>(t.1,t.2.1)).Nodup) {t:Stp} (hm:M[i]?=some t) {w:Str} (hw:w.length≤40):SI R T M c i (d+1) (B++[(tn T (t.1+(c:Int)*R),t.2.1,w,tn T (t.2.2.2+(d:Int)*R))]):=by
 have b:=mb t (List.mem_of_getElem? hm)
 refine⟨?_,by rw[List.length_append,List.length_singleton];have:=h.ln;omega,fun x hx=>?_,fun x hx=>?_⟩
 ·refine ϑu h.nd fun z=>?_
  obtain⟨c',j,d',t0,z2,a1,a2,a3,a4,a5⟩:=h.fr _ z
  have b0:=mb t0 (List.mem_of_getElem? a1)
  dsimp only at a2 a3 a4
  have k:=cR (R:=R) (c:=c) (c':=c') b.1 b.2.1 b0.1 b0.2.1 hc (by omega)
  have k2:=cR (R:=R) (c:=c') (c':=c) b0.1 b0.2.1 b.1 b.2.1 (by omega) hc
  obtain⟨e1,e2⟩:=k.2 (ϡ_ ht k.1.1 k.1.2 k2.1.1 k2.1.2 a2)
  have ej:j=i:=by
   have q1:(M.map fun t:Stp=>(t.1,t.2.1))[j]?=some (t.1,t.2.1):=by rw[List.getElem?_map,a1,e1,a3];rfl
   have q2:(M.map fun t:Stp=>(t.1,t.2.1))[i]?=some (t.1,t.2.1):=by rw[List.getElem?_map,hm];rfl
   exact ϡL nd q1 q2
  subst ej
  rw[hm] at a1
  injection a1 with a1
  subst a1
  have k:=cR (R:=R) (c:=d) (c':=d') b.2.2.1 b.2.2.2 b.2.2.1 b.2.2.2 hd z2
  have k2:=cR (R:=R) (c:=d') (c':=d) b.2.2.1 b.2.2.2 b.2.2.1 b.2.2.2 z2 hd
  obtain⟨_,e3⟩:=k.2 (ϡ_ ht k.1.1 k.1.2 k2.1.1 k2.1.2 a4)
  omega
 ·rcases List.mem_append.mp hx with hx|hx
  ·exact h.wl x hx
  ·rw[List.mem_singleton.mp hx];exact hw
 ·rcases List.mem_append.mp hx with hx|hx
  ·obtain⟨c',j,d',t0,z,a,b,e,f,g⟩:=h.fr x hx
   exact⟨c',j,d',t0,z,a,b,e,f,by omega⟩
  ·rw[List.mem_singleton.mp hx]
   exact⟨c,i,d,t,hd,hm,rfl,rfl,rfl,.inr ⟨rfl,.inr ⟨rfl,by omega⟩⟩⟩
theorem ϡF {s:Scr} (o:OkS true s 20) (r0:0≤s.rooms) (r4:s.rooms≤4) (g1:1≤s.signs.length) (g5:s.signs.length≤5) {T:List Int} (ht:Trn s.rooms T) {B E:List Mk}{S:List Stp} (hB:MI s.rooms T s.begins 2 0 B) (hS:SI s.rooms T s.steps 2 0 0 S) (hE:MI s.rooms T s.ends 2 0 E):Dr ⟨s.signs,2*s.rooms,B,S,E⟩:=by
 have mk:∀{M B:List Mk},(∀ m∈M,0≤m.1∧m.1 < s.rooms∧Wd m.2)→MI s.rooms T M 2 0 B→∀m∈B,0≤m.1∧m.1 < 2*s.rooms:=fun hb h m hm=>by
  obtain⟨c',j,m0,a,b,d⟩:=h.fr m hm
  have:=hb m0 (List.mem_of_getElem? a)
  have k:=cR (R:=s.rooms) (c:=c') (c':=0) this.1 this.2.1 this.1 this.2.1 (by omega) (by decide)
  rw[b]
  exact ϛv ht k.1.1 k.1.2
 have lB:=hB.ln
 have lS:=hS.ln
 have lE:=hE.ln
 refine⟨⟨⟨by show B.length≤999;omega,by show S.length≤99999;omega,by show E.length≤999;omega,by show 2*s.rooms≤999;omega,mk o.mb hB,fun t htm=>?_,mk o.me hE⟩,by show 0≤2*s.rooms;omega,by show 2*s.rooms≤8;omega,nd_of hB.nd,hS.nd,nd_of hE.nd,fun t htm=>?_⟩,hB.wl,hS.wl,hE.wl,by show B.length≤40;omega,by show S.length≤80;omega,by show E.length≤40;omega,g1,g5,fun t htm=>?_⟩
 ·obtain⟨c',j,d',t0,z,a,b,e,f,g⟩:=hS.fr t htm
  have:=o.ms t0 (List.mem_of_getElem? a)
  have k:=cR (R:=s.rooms) (c:=c') (c':=0) this.1 this.2.1 this.1 this.2.1 (by omega) (by decide)
  have k2:=cR (R:=s.rooms) (c:=d') (c':=0) this.2.2.2.2.1 this.2.2.2.2.2 this.1 this.2.1 z (by decide)
  have x1:=ϛv ht k.1.1 k.1.2
  have x2:=ϛv ht k2.1.1 k2.1.2
  rw[← b] at x1
  rw[← f] at x2
  exact⟨x1.1,x1.2,x2.1,x2.2⟩
 ·obtain⟨c',j,d',t0,z,a,b,e,f,g⟩:=hS.fr t htm
  obtain⟨ch,_,hc⟩:=(o.ms t0 (List.mem_of_getElem? a)).2.2.1
  exact⟨ch,by rw[e,hc]⟩
 ·obtain⟨c',j,d',t0,z,a,b,e,f,g⟩:=hS.fr t htm
  obtain⟨ch,hm,hc⟩:=(o.ms t0 (List.mem_of_getElem? a)).2.2.1
  exact⟨ch,hm,by rw[e,hc]⟩
theorem sl_38 {z:Str}:(Txt.slice z none (some 38)).length≤38:=by
 rw[← ϖR,ϵx,List.length_take,HT.sIx_none,show HT.sIx z.length z.length (some 38)=min 38 z.length from HT.sIx_nat _ _ 38]
 omega
theorem ϛR {z:Str} (hz:z.length=1) {c:Int} (h:c=0∨c=1):(Txt.mul z c).length≤1:=by
 rcases h with rfl|rfl
 ·rw[mul0_0];exact Nat.zero_le _
 ·have:=mul_len z 1 (by decide)
  omega
def rvM (m:Mk):Mk:=(m.1,rvS m.2)
def rvT (t:Stp):Stp:=(t.2.2.2,t.2.1,rvS t.2.2.1,t.1)
def mirS (s:Scr):Scr:=⟨s.signs,s.rooms,s.ends.map rvM,s.steps.map rvT,s.begins.map rvM⟩
theorem ϱS (m:Mk):rvM (rvM m)=m:=by unfold rvM;rw[ϵT]
theorem ϲO (t:Stp):rvT (rvT t)=t:=by unfold rvT;rw[ϵT]
theorem ϛs (s:Scr):mirS (mirS s)=s:=by
 obtain⟨g,r,B,S,E⟩:=s
 have h1:∀l:List Mk,(l.map rvM).map rvM=l:=fun l=>by
  rw[List.map_map]
  have:rvM∘rvM=id:=funext ϱS
  rw[this,List.map_id]
 have h2:∀l:List Stp,(l.map rvT).map rvT=l:=fun l=>by
  rw[List.map_map]
  have:rvT∘rvT=id:=funext ϲO
  rw[this,List.map_id]
 show(⟨g,r,(B.map rvM).map rvM,(S.map rvT).map rvT,(E.map rvM).map rvM⟩:Scr)=_
 rw[h1,h2,h1]
structure Bd (s:Scr):Prop where
 lb:s.begins.length≤999
 ls:s.steps.length≤999
 le:s.ends.length≤999
 wb:∀m∈s.begins,m.2.length≤40
 ws:∀t∈s.steps,t.2.2.1.length≤40
 we:∀m∈s.ends,m.2.length≤40
def ϟm:Sp:=fun vs H Q _=>∃w:Str,vs=[.str w]∧w.length≤40∧Q (.str (rvS w)) H
def ϛW (K:Frag):Sp:=fun vs H Q _=>∃v s pb ps pe,vs=[v]∧ScV K H s v pb ps pe∧Bd s∧∀v' H' pb' ps' pe',Same H H'→ScN K H' (mirS s) v' pb' ps' pe'→Apart H pb' ps' pe'→Q v' H'
def shM (r:Int) (m:Mk):Mk:=(m.1+r,m.2)
def shT (r:Int) (t:Stp):Stp:=(t.1+r,t.2.1,t.2.2.1,t.2.2.2+r)
def ϵc (s u:Scr):Scr:=⟨s.signs,s.rooms+u.rooms,s.begins++u.begins.map (shM s.rooms),s.steps++u.steps.map (shT s.rooms),s.ends++u.ends.map (shM s.rooms)⟩
def ϛj (s:Scr):Prop:=s.begins.length≤999∧s.steps.length≤999∧s.ends.length≤999
def ϵu (K:Frag) (c:Addr):Sp:=fun vs H Q E=>∃v s pb ps pe w u qb qs qe,vs=[v,w]∧ScV K H s v pb ps pe∧ScV K H u w qb qs qe∧(s.signs=u.signs→Q .non H)∧(s.signs≠u.signs→E (.ref c) none H)
def ϱx (K:Frag) (c c2:Addr):Sp:=fun vs H Q E=>∃v s pb ps pe w u qb qs qe,vs=[v,w]∧ScV K H s v pb ps pe∧ScV K H u w qb qs qe∧ϛj s∧ϛj u∧(s.signs≠u.signs→E (.ref c) none H)∧(s.signs=u.signs→200 < s.rooms+u.rooms→E (.ref c2) none H) ∧
 (s.signs=u.signs→s.rooms+u.rooms≤200→∀v' H' pb' ps' pe',Same H H'→ScN K H' (ϵc s u) v' pb' ps' pe'→Apart H pb' ps' pe'→Q v' H')
structure LensR (s:Scr):Prop where
 lb:s.begins.length≤999
 ls:s.steps.length≤999
 le:s.ends.length≤999
def KyR (H:Hp) (k:List Key) (v:V):Prop:=∃b,v=.ref b∧H b=some (.tup (k.map kV))
theorem KyR.mono {H H':Hp}{k:List Key}{v:V} (g:Same H H'):KyR H k v→KyR H' k v:=fun⟨b,e,h⟩=>⟨b,e,g _ _ h⟩
theorem ϱl {α β γ:Type}{F:α→γ→Prop}:∀{kvs:List (α×β)}{bs:List γ},Paired (fun (kv:α×β) b=>F kv.1 b) kvs bs→Paired F (kvs.map (·.1)) bs
 |_,_,.nil=>.nil
 |_,_,.cons h t=>.cons h (ϱl t)
def ϡl (K:Frag):Sp:=fun vs H Q _=>∃p,vs=[.ref p]∧((∃ ns:List Int,SqL K H p (ns.map V.int)∧ns.length≤999∧∀l H',Same H H'→H l=none→H' l=some (.lst ((ϕl ns).map V.int))→Q (.ref l) H') ∨
 ∃(ys:List V) (ks:List (List Key)),SqL K H p ys∧Paired (KyR H) ks ys∧ks.length≤999∧∀l H' (bs:List Addr),Same H H'→H l=none→H' l=some (.lst (bs.map V.ref))→Paired (fun k b=>H' b=some (.tup (k.map kV))) (ϕl ks) bs→Q (.ref l) H')
def kpM (n:Int) (M T:List Mk):List Mk:=M.flatMap fun m=>(ϕl (T.map (·.1))).map fun q=>(m.1*n+q,m.2)
abbrev Mv:=Int×Str×Int
def mvOf (t:Stp):Mv:=(t.1,t.2.1,t.2.2.2)
def mvs (T:List Stp):List Mv:=ϕl (T.map mvOf)
def onT (n:Int) (t:Stp) (u:Mv):Stp:=(t.1*n+u.1,t.2.1,t.2.2.1,t.2.2.2*n+u.2.2)
def kpT (n:Int) (S T:List Stp):List Stp:=S.flatMap fun t=>((mvs T).filter fun u=>decide (u.2.1=t.2.1)).map (onT n t)
def kpS (s u:Scr):Scr:=⟨s.signs,s.rooms*u.rooms,kpM u.rooms s.begins u.begins,kpT u.rooms s.steps u.steps,kpM u.rooms s.ends u.ends⟩
structure Smk (s:Scr):Prop where
 lb:s.begins.length≤99
 ls:s.steps.length≤99
 le:s.ends.length≤99
def Nm (n:Int):Prop:=0≤n∧n≤1000000
def MkLk (K:Frag) (H:Hp) (p:Addr) (M:List Mk):Prop:=∃xs,SqL K H p xs∧Paired (MkV K H) M xs
def StLk (K:Frag) (H:Hp) (p:Addr) (M:List Stp):Prop:=∃xs,SqL K H p xs∧Paired (StV K H) M xs
theorem MkLk.mono {K:Frag}{H H':Hp}{p:Addr}{M:List Mk} (g:Same H H'):MkLk K H p M→MkLk K H' p M:=fun⟨xs,h1,h2⟩=>⟨xs,g.seq h1,ϖb (fun _ _=>MkV.mono (Same.grow g)) h2⟩
theorem StLk.mono {K:Frag}{H H':Hp}{p:Addr}{M:List Stp} (g:Same H H'):StLk K H p M→StLk K H' p M:=fun⟨xs,h1,h2⟩=>⟨xs,g.seq h1,ϖb (fun _ _=>StV.mono (Same.grow g)) h2⟩
def MkW (K:Frag) (H:Hp) (p:Addr) (M:List Mk):Prop:=∃xs,H p=some (.lst xs)∧Paired (MkV K H) M xs
def StW (K:Frag) (H:Hp) (p:Addr) (M:List Stp):Prop:=∃xs,H p=some (.lst xs)∧Paired (StV K H) M xs
def ϵv (K:Frag):Sp:=fun vs H Q _=>∃(p o:Addr) (n:Int) (M T:List Mk),vs=[.ref p,.ref o,.int n]∧MkLk K H p M∧MkLk K H o T∧M.length≤99∧T.length≤99∧Nm n∧∀l H',Same H H'→H l=none→MkW K H' l (kpM n M T)→Q (.ref l) H'
def PrVk (K:Frag) (H:Hp) (u:Mv) (v:V):Prop:=∃b,v=.ref b∧SqT K H b [.int u.1,.int u.2.2]
theorem ϰN (K:Frag) (H H':Hp) (t:Mv) (v:V) (g:GT H H') (h:PrVk K H t v):PrVk K H' t v:=let ⟨b,e,h⟩:=h;⟨b,e,g.seqT h⟩
def ϰ5 (u:Mv):Key:=Sum.inr u.2.1
def MovD (K:Frag) (H0 H:Hp) (ms:List Mv) (v:V):Prop:=∃d kvs,v=.ref d∧H d=some (.dK kvs)∧Bk (PrVk K) ϰ5 H0 H d ms kvs
theorem MovD.mono {K:Frag}{H0 H H':Hp}{ms:List Mv}{v:V} (g:Same H H'):MovD K H0 H ms v→MovD K H0 H' ms v:=fun⟨d,kvs,e,h,b⟩=>⟨d,kvs,e,g _ _ h,b.mono (ϰN K) g⟩
def ϲZ (K:Frag):Sp:=fun vs H Q _=>∃(p:Addr) (T:List Stp),vs=[.ref p]∧StLk K H p T∧T.length≤99∧∀v H',Same H H'→MovD K H H' (mvs T) v→Q v H'
def ϵD (K:Frag):Sp:=fun vs H Q _=>∃(p o:Addr) (n:Int) (M T:List Stp),vs=[.ref p,.ref o,.int n]∧StLk K H p M∧StLk K H o T∧M.length≤99∧T.length≤99∧Nm n∧∀l H',Same H H'→H l=none→StW K H' l (kpT n M T)→Q (.ref l) H'
def ϵV (K:Frag) (c:Addr):Sp:=fun vs H Q E=>∃v s pb ps pe w u qb qs qe,vs=[v,w]∧ScV K H s v pb ps pe∧ScV K H u w qb qs qe∧Nm s.rooms∧(s.rooms*u.rooms≤200→Q .non H)∧(200 < s.rooms*u.rooms→E (.ref c) none H)
def ϟ4 (K:Frag) (c c2:Addr):Sp:=fun vs H Q E=>∃v s pb ps pe w u qb qs qe,vs=[v,w]∧ScV K H s v pb ps pe∧ScV K H u w qb qs qe∧Smk s∧Smk u∧Nm s.rooms∧Nm u.rooms∧(s.signs≠u.signs→E (.ref c) none H)∧(s.signs=u.signs→200 < s.rooms*u.rooms→E (.ref c2) none H) ∧
 (s.signs=u.signs→s.rooms*u.rooms≤200→∀v' H' pb' ps' pe',Same H H'→ScN K H' (kpS s u) v' pb' ps' pe'→Apart H pb' ps' pe'→Q v' H')
theorem ϟY (n:Int) (T:List Mk) (h:T.length≤99):∀M:List Mk,(kpM n M T).length≤99*M.length
 |[]=>Nat.zero_le _
 |m::M=>by
  have ih:=ϟY n T h M
  have h1:=ϕ2 (T.map (·.1))
  unfold kpM at ih⊢
  rw[List.flatMap_cons,List.length_append,List.length_map,List.length_cons]
  rw[List.length_map] at h1
  omega
theorem ϟL (n:Int) (T:List Stp) (h:T.length≤99):∀M:List Stp,(kpT n M T).length≤99*M.length
 |[]=>Nat.zero_le _
 |m::M=>by
  have ih:=ϟL n T h M
  have h1:=ϕ2 (T.map mvOf)
  have h2:=List.length_filter_le (fun u:Mv=>decide (u.2.1=m.2.1)) (mvs T)
  unfold kpT at ih⊢
  rw[List.flatMap_cons,List.length_append,List.length_map,List.length_cons]
  rw[List.length_map] at h1
  unfold mvs at h2 ih⊢
  omega
theorem ϝI {n:Int}{M T:List Mk}{i:Nat}{m:Mk} (h:M[i]?=some m):kpM n (M.take (i+1)) T=kpM n (M.take i) T++(ϕl (T.map (·.1))).map fun q=>(m.1*n+q,m.2):=by
 unfold kpM
 rw[ϖz h,List.flatMap_append,List.flatMap_singleton]
theorem ϝu {n:Int}{M T:List Stp}{i:Nat}{t:Stp} (h:M[i]?=some t):kpT n (M.take (i+1)) T=kpT n (M.take i) T++((mvs T).filter fun u=>decide (u.2.1=t.2.1)).map (onT n t):=by
 unfold kpT
 rw[ϖz h,List.flatMap_append,List.flatMap_singleton]
def k3 (u:Mv):List Key:=[Sum.inl u.1,Sum.inr u.2.1,Sum.inl u.2.2]
theorem k3_inj (a b:Mv) (h:k3 a=k3 b):a=b:=by
 obtain⟨a1,a2,a3⟩:=a
 obtain⟨b1,b2,b3⟩:=b
 unfold k3 at h
 simp only[List.cons.injEq,Sum.inl.injEq,Sum.inr.injEq,and_true] at h
 obtain⟨h1,h2,h3⟩:=h
 subst h1 h2 h3
 rfl
theorem ϝi {α β:Type} [DecidableEq α] [DecidableEq β] {f:α→β} (inj:∀a b,f a=f b→a=b) (xs:List α):ϕl (xs.map f)=(ϕl xs).map f:=by
 have go:∀(xs acc:List α),(xs.map f).foldl addM (acc.map f)=(xs.foldl addM acc).map f:=by
  intro xs
  induction xs with
  |nil=>intro acc;rfl
  |cons x xs ih=>intro acc;rw[List.map_cons,List.foldl_cons,List.foldl_cons,← ϡ2 inj,ih]
 exact go xs []
theorem MovD.get3 {K:Frag}{H0 H1 H:Hp}{ms:List Mv}{v:V}{g:Str}{l:Addr} (h:MovD K H0 H1 ms v) (s:Same H1 H) (hl:H l=some (.lst [])) :
  ∃d o la ys,v=.ref d∧DGet H d (.str g) o∧o.getD (.ref l)=.ref la∧H la=some (.lst ys)∧Paired (PrVk K H) (ms.filter (fun t=>decide (t.2.1=g))) ys∧(la=l∨∃u,H1 la=some u):=by
 obtain⟨d,kvs,e,h1,b⟩:=h
 have hf:ms.filter (fun t=>decide (ϰ5 t=Sum.inr g))=ms.filter (fun t=>decide (t.2.1=g)):=by
  congr 1
  funext t
  exact decide_eq_decide.mpr ⟨fun z=>by injection z,fun z=>by unfold ϰ5;rw[z]⟩
 have hg:DGet H d (.str g) (valV kvs (Sum.inr g)):=DGet.k (k:=Sum.inr g) (s _ _ h1)
 cases ho:valV kvs (Sum.inr g) with
 |none=>exact⟨d,none,l,[],e,ho▸hg,rfl,hl,by rw[← hf,b.nokey _ ho];exact .nil,.inl rfl⟩
 |some u=>
  obtain⟨l1,ys,rfl,_,_,h4,h5,_⟩:=b.there _ _ ho
  exact⟨d,_,l1,ys,e,ho▸hg,rfl,s _ _ h4,by rw[← hf];exact ϖb (fun _ _=>ϰN K _ _ _ _ (GT.of s)) h5,.inr ⟨_,h4⟩⟩
theorem ϡd (a b:Str):rvS (a++b)=rvS b++rvS a:=ϕq (by rw[ϱD,ϖS,ϖS,ϱD,ϱD,List.reverse_append])
theorem rv_one (c:Nat):rvS ⟨#[c]⟩=⟨#[c]⟩:=rfl
theorem rv_nil:rvS (Str.ofString "")=Str.ofString "":=by decide +kernel
theorem OP.one {S:List Stp}{q:Nat}{t:Stp} (h:S[q]?=some t):OP S t.1 [q] t.2.2.2 t.2.1 t.2.2.1:=by
 have:=OP.cons h (OP.nil (S:=S) t.2.2.2)
 rw[ϲf,ϲf] at this
 exact this
theorem OP.mir {s:Scr} (n:Nice s) {r r':Int}{qs:List Nat}{x w:Str} (h:OP s.steps r qs r' x w):OP (s.steps.map rvT) r' qs.reverse r (rvS x) (rvS w):=by
 induction h with
 |nil r=>rw[rv_nil];exact .nil _
 |@cons q t qs r x w h y ih=>
  obtain⟨c,hc⟩:=n.sg t (List.mem_of_getElem? h)
  have hq:(s.steps.map rvT)[q]?=some (rvT t):=by rw[List.getElem?_map,h];rfl
  have h1:=OP.one hq
  rw[List.reverse_cons,ϡd,ϡd,hc,rv_one,← hc]
  exact ih.app h1
theorem OWay.mir {s:Scr} (n:Nice s) {X:Wyy}{x u:Str} (h:OWay s X x u):OWay (mirS s) (X.2.2,X.2.1.reverse,X.1) (rvS x) (rvS u):=by
 obtain⟨m,e,v,hm,he,hp,rfl⟩:=h
 refine⟨rvM e,rvM m,rvS v,?_,?_,hp.mir n,?_⟩
 ·show(s.ends.map rvM)[X.2.2]?=_
  rw[List.getElem?_map,he];rfl
 ·show(s.begins.map rvM)[X.1]?=_
  rw[List.getElem?_map,hm];rfl
 ·rw[ϡd,ϡd,← sap];rfl
theorem rv_inj {a b:Str} (h:rvS a=rvS b):a=b:=by rw[← ϵT a,h,ϵT]
theorem Nice.mir {s:Scr} (n:Nice s):Nice (mirS s):=by
 refine⟨⟨by show(s.ends.map rvM).length≤999;rw[List.length_map];exact n.ok.le,by show(s.steps.map rvT).length≤99999;rw[List.length_map];exact n.ok.ls,by show(s.begins.map rvM).length≤999;rw[List.length_map];exact n.ok.lb,n.ok.lr,fun m hm=>?_,fun t ht=>?_,fun m hm=>?_⟩,n.r0,n.r8,?_,?_,?_,fun t ht=>?_⟩
 ·obtain⟨m0,h0,rfl⟩:=List.mem_map.mp (show m∈s.ends.map rvM from hm);exact n.ok.me m0 h0
 ·obtain⟨t0,h0,rfl⟩:=List.mem_map.mp (show t∈s.steps.map rvT from ht)
  have:=n.ok.ms t0 h0
  exact⟨this.2.2.1,this.2.2.2,this.1,this.2.1⟩
 ·obtain⟨m0,h0,rfl⟩:=List.mem_map.mp (show m∈s.begins.map rvM from hm);exact n.ok.mb m0 h0
 ·exact List.Pairwise.map _ (fun a b hab e=>hab (by rw[← ϱS a,e,ϱS])) n.ne
 ·exact List.Pairwise.map _ (fun a b hab e=>hab (by rw[← ϲO a,e,ϲO])) n.ns
 ·exact List.Pairwise.map _ (fun a b hab e=>hab (by rw[← ϱS a,e,ϱS])) n.nb
 ·obtain⟨t0,h0,rfl⟩:=List.mem_map.mp (show t∈s.steps.map rvT from ht)
  exact n.sg t0 h0
theorem ϰT {s:Scr} (n:Nice s) (h:ϕG (mirS s)):ϕG s:=fun X Y x u v hX hY=>rv_inj (h _ _ _ _ _ (hX.mir n) (hY.mir n))
theorem ϡB {s:Scr} (n:Nice s):ϕG (mirS s)↔ϕG s:=⟨ϰT n,fun h=>ϰT n.mir (by rw[ϛs];exact h)⟩
def ϲz (R r:Int):Int:=if r < R then r else r-R
theorem OP.fold {s:Scr} (ok:OkR s) {r r':Int}{qs:List Nat}{x w:Str} (h:OP (ϵc s s).steps r qs r' x w):∃qs',OP s.steps (ϲz s.rooms r) qs' (ϲz s.rooms r') x w:=by
 induction h with
 |nil r=>exact⟨[],.nil _⟩
 |@cons q t qs r x w h y ih=>
  obtain⟨qs',hp⟩:=ih
  have hm:=List.mem_of_getElem? h
  rcases List.mem_append.mp (show t∈s.steps++s.steps.map (shT s.rooms) from hm) with hm|hm
  ·obtain⟨q0,hq0⟩:=List.getElem?_of_mem hm
   have b:=ok.ms t hm
   have e1:ϲz s.rooms t.1=t.1:=if_pos b.2.1
   have e2:ϲz s.rooms t.2.2.2=t.2.2.2:=if_pos b.2.2.2
   rw[e1]
   rw[e2] at hp
   exact⟨q0::qs',.cons hq0 hp⟩
  ·obtain⟨t0,h0,rfl⟩:=List.mem_map.mp hm
   obtain⟨q0,hq0⟩:=List.getElem?_of_mem h0
   have b:=ok.ms t0 h0
   have e1:ϲz s.rooms (shT s.rooms t0).1=t0.1:=by
    show(if t0.1+s.rooms < s.rooms then _ else t0.1+s.rooms-s.rooms)=_
    rw[if_neg (by omega)];omega
   have e2:ϲz s.rooms (shT s.rooms t0).2.2.2=t0.2.2.2:=by
    show(if t0.2.2.2+s.rooms < s.rooms then _ else t0.2.2.2+s.rooms-s.rooms)=_
    rw[if_neg (by omega)];omega
   rw[e1]
   rw[e2] at hp
   exact⟨q0::qs',.cons hq0 hp⟩
theorem ϡW {s:Scr}{M:List Mk} (mb:∀m∈M,0≤m.1∧m.1 < s.rooms) {j:Nat}{m:Mk} (h:(M++M.map (shM s.rooms))[j]?=some m):∃(j':Nat) (m':Mk),M[j']?=some m'∧m'.1=ϲz s.rooms m.1∧m'.2=m.2:=by
 rcases List.mem_append.mp (List.mem_of_getElem? h) with hm|hm
 ·obtain⟨q0,hq0⟩:=List.getElem?_of_mem hm
  exact⟨q0,m,hq0,(if_pos (mb m hm).2).symm,rfl⟩
 ·obtain⟨t0,h0,rfl⟩:=List.mem_map.mp hm
  obtain⟨q0,hq0⟩:=List.getElem?_of_mem h0
  refine⟨q0,t0,hq0,?_,rfl⟩
  have:=mb t0 h0
  show _=(if t0.1+s.rooms < s.rooms then _ else t0.1+s.rooms-s.rooms)
  rw[if_neg (by omega)];omega
theorem OWay.fold {s:Scr} (ok:OkR s) {X:Wyy}{x u:Str} (h:OWay (ϵc s s) X x u):∃Y,OWay s Y x u:=by
 obtain⟨m,e,v,hm,he,hp,rfl⟩:=h
 obtain⟨i,m',a1,a2,a3⟩:=ϡW ok.mb (show(s.begins++s.begins.map (shM s.rooms))[X.1]?=some m from hm)
 obtain⟨j,e',b1,b2,b3⟩:=ϡW ok.me (show(s.ends++s.ends.map (shM s.rooms))[X.2.2]?=some e from he)
 obtain⟨qs',hq⟩:=hp.fold ok
 rw[← a2,← b2] at hq
 exact⟨(i,qs',j),m',e',v,a1,b1,hq,by rw[a3,b3]⟩
theorem OP.left {s:Scr}{r r':Int}{qs:List Nat}{x w:Str} (h:OP s.steps r qs r' x w):OP (ϵc s s).steps r qs r' x w:=by
 induction h with
 |nil r=>exact .nil _
 |@cons q t qs r x w h y ih=>
  refine .cons ?_ ih
  show(s.steps++s.steps.map (shT s.rooms))[q]?=some t
  rw[List.getElem?_append_left (List.getElem?_eq_some_iff.mp h).1];exact h
theorem ϲB {s:Scr} (ok:OkR s):ϕG (ϵc s s)↔ϕG s:=by
 constructor
 ·intro h X Y x u v hX hY
  have up:∀{X:Wyy}{x u:Str},OWay s X x u→OWay (ϵc s s) X x u:=fun {X x u} ⟨m,e,w,hm,he,hp,hu⟩=>⟨m,e,w,by
   show(s.begins++s.begins.map (shM s.rooms))[X.1]?=some m
   rw[List.getElem?_append_left (List.getElem?_eq_some_iff.mp hm).1];exact hm,by
   show(s.ends++s.ends.map (shM s.rooms))[X.2.2]?=some e
   rw[List.getElem?_append_left (List.getElem?_eq_some_iff.mp he).1];exact he,hp.left,hu⟩
  exact h _ _ _ _ _ (up hX) (up hY)
 ·intro h X Y x u v hX hY
  obtain⟨X',hX'⟩:=hX.fold ok
  obtain⟨Y',hY'⟩:=hY.fold ok
  exact h _ _ _ _ _ hX' hY'
theorem ϑ2 {α:Type} [DecidableEq α]:∀(xs:List α) (x:α),x∈ϕl xs→x∈xs:=by
 have key:∀(n:Nat) (xs:List α),xs.length=n→∀x∈ϕl xs,x∈xs:=by
  intro n
  induction n with
  |zero=>intro xs h x hx;rw[List.length_eq_zero_iff.mp h] at hx;exact absurd hx (by unfold ϕl;exact List.not_mem_nil)
  |succ n ih=>
   intro xs h x hx
   have hne:xs≠[]:=fun z=>by rw[z] at h;cases h
   rw[← List.dropLast_concat_getLast hne] at hx⊢
   rw[ϰW] at hx
   unfold addM at hx
   have hd:=ih xs.dropLast (by rw[List.length_dropLast,h];rfl)
   split at hx
   ·exact List.mem_append_left _ (hd x hx)
   ·rcases List.mem_append.mp hx with hx|hx
    ·exact List.mem_append_left _ (hd x hx)
    ·exact List.mem_append_right _ hx
 exact fun xs=>key _ xs rfl
theorem ϰ1 {n a p:Int} (h0:0≤p) (h1:p < n):(a*n+p) / n=a:=by
 rw[Int.add_comm,Int.add_mul_ediv_right _ _ (by omega),Int.ediv_eq_zero_of_lt h0 h1];omega
theorem OP.kept {s u:Scr} (ok:OkR u) {r r':Int}{qs:List Nat}{x w:Str} (h:OP (kpS s u).steps r qs r' x w):∃qs',OP s.steps (r / u.rooms) qs' (r' / u.rooms) x w:=by
 induction h with
 |nil r=>exact⟨[],.nil _⟩
 |@cons q t qs r x w h y ih=>
  obtain⟨qs',hp⟩:=ih
  have hm:=List.mem_of_getElem? h
  unfold kpS kpT at hm
  obtain⟨t0,h0,hm⟩:=List.mem_flatMap.mp hm
  obtain⟨v,hv,rfl⟩:=List.mem_map.mp hm
  have hv:=ϑ2 _ _ (List.mem_filter.mp hv).1
  obtain⟨t1,h1,rfl⟩:=List.mem_map.mp hv
  obtain⟨q0,hq0⟩:=List.getElem?_of_mem h0
  have b:=ok.ms t1 h1
  have e1:(onT u.rooms t0 (mvOf t1)).1 / u.rooms=t0.1:=ϰ1 b.1 b.2.1
  have e2:(onT u.rooms t0 (mvOf t1)).2.2.2 / u.rooms=t0.2.2.2:=ϰ1 b.2.2.1 b.2.2.2
  rw[e1]
  rw[e2] at hp
  exact⟨q0::qs',.cons hq0 hp⟩
theorem ϟ3 {n:Int}{M T:List Mk} (ok:∀m∈T,0≤m.1∧m.1 < n) {j:Nat}{m:Mk} (h:(kpM n M T)[j]?=some m):∃(j':Nat) (m':Mk),M[j']?=some m'∧m'.1=m.1 / n∧m'.2=m.2:=by
 have hm:=List.mem_of_getElem? h
 unfold kpM at hm
 obtain⟨m0,h0,hm⟩:=List.mem_flatMap.mp hm
 obtain⟨q,hq,rfl⟩:=List.mem_map.mp hm
 have hq:=ϑ2 _ _ hq
 obtain⟨m1,h1,rfl⟩:=List.mem_map.mp hq
 obtain⟨q0,hq0⟩:=List.getElem?_of_mem h0
 exact⟨q0,m0,hq0,(ϰ1 (ok m1 h1).1 (ok m1 h1).2).symm,rfl⟩
theorem ϲI {s u:Scr} (ok:OkR u) (h:ϕG s):ϕG (kpS s u):=by
 have dn:∀{X:Wyy}{x v:Str},OWay (kpS s u) X x v→∃Y,OWay s Y x v:=fun {X x v} ⟨m,e,w,hm,he,hp,hu⟩=>by
  obtain⟨i,m',a1,a2,a3⟩:=ϟ3 ok.mb (show(kpM u.rooms s.begins u.begins)[X.1]?=some m from hm)
  obtain⟨j,e',b1,b2,b3⟩:=ϟ3 ok.me (show(kpM u.rooms s.ends u.ends)[X.2.2]?=some e from he)
  obtain⟨qs',hq⟩:=hp.kept ok
  rw[← a2,← b2] at hq
  exact⟨(i,qs',j),m',e',w,a1,b1,hq,by rw[a3,b3];exact hu⟩
 intro X Y x v v' hX hY
 obtain⟨X',hX'⟩:=dn hX
 obtain⟨Y',hY'⟩:=dn hY
 exact h _ _ _ _ _ hX' hY'
theorem ϵj {s:Scr} (n:Nice s) {o:Option (Wyy×Wyy)} (h:TwoR s o):o=none↔ϕG s:=by
 cases o with
 |none=>exact⟨fun _=>ϝh n h,fun _=>rfl⟩
 |some w=>
  obtain⟨x,u,v,h1,h2,h3,_⟩:=ϝm n h
  exact⟨(fun z=>nomatch z),fun sg=>absurd (sg _ _ _ _ _ h1 h2) h3⟩
theorem ϛ6 {α β:Type}{f:α→List β}:∀{xs:List α},xs.Nodup→(∀ a∈xs,(f a).Nodup)→(∀ a∈xs,∀b∈xs,∀y,y∈f a→y∈f b→a=b)→(xs.flatMap f).Nodup
 |[],_,_,_=>List.nodup_nil
 |x::xs,nd,h1,h2=>by
  rw[List.nodup_cons] at nd
  rw[List.flatMap_cons]
  refine List.nodup_append.mpr ⟨h1 x (List.mem_cons_self ..),ϛ6 nd.2 (fun a ha=>h1 a (List.mem_cons_of_mem _ ha)) (fun a ha b hb=>h2 a (List.mem_cons_of_mem _ ha) b (List.mem_cons_of_mem _ hb)),fun y hy z hz e=>?_⟩
  subst e
  obtain⟨b,hb,hyb⟩:=List.mem_flatMap.mp hz
  exact nd.1 (by rw[h2 x (List.mem_cons_self ..) b (List.mem_cons_of_mem _ hb) y hy hyb];exact hb)
theorem ϛE {α β:Type}{f:α→List β}{n:Nat}:∀{xs:List α},(∀ a∈xs,(f a).length≤n)→(xs.flatMap f).length≤n*xs.length
 |[],_=>Nat.zero_le _
 |x::xs,h=>by
  rw[List.flatMap_cons,List.length_append,List.length_cons,Nat.mul_add]
  have:=h x (List.mem_cons_self ..)
  have:=ϛE (f:=f) (n:=n) (xs:=xs) fun a ha=>h a (List.mem_cons_of_mem _ ha)
  omega
theorem ϰ_ {α:Type} [DecidableEq α] (xs:List α):(ϕl xs).Nodup:=by
 have key:∀(n:Nat) (xs:List α),xs.length=n→(ϕl xs).Nodup:=by
  intro n
  induction n with
  |zero=>intro xs h;rw[List.length_eq_zero_iff.mp h];exact List.nodup_nil
  |succ n ih=>
   intro xs h
   have hne:xs≠[]:=fun z=>by rw[z] at h;cases h
   rw[← List.dropLast_concat_getLast hne,ϰW]
   have hd:=ih xs.dropLast (by rw[List.length_dropLast,h];rfl)
   unfold addM
   split
   ·exact hd
   ·rename_i hn
    exact List.nodup_append.mpr ⟨hd,List.nodup_cons.mpr ⟨List.not_mem_nil,List.nodup_nil⟩,fun a ha b hb e=>hn (by rw[← List.mem_singleton.mp hb,← e];exact ha)⟩
 exact key _ xs rfl
theorem ϟQ {α:Type} [DecidableEq α] (xs:List α):(ϕl xs).length≤xs.length:=ϟ1 (ϰ_ xs) fun x hx=>ϑ2 xs x hx
theorem ϲ4 {n:Int}{M T:List Mk}{x:Mk} (h:x∈kpM n M T):∃m∈M,∃m1∈T,x=(m.1*n+m1.1,m.2):=by
 unfold kpM at h
 obtain⟨m0,h0,hm⟩:=List.mem_flatMap.mp h
 obtain⟨q,hq,rfl⟩:=List.mem_map.mp hm
 obtain⟨m1,h1,rfl⟩:=List.mem_map.mp (ϑ2 _ _ hq)
 exact⟨m0,h0,m1,h1,rfl⟩
theorem ϵN {n:Int}{S T:List Stp}{x:Stp} (h:x∈kpT n S T):∃t∈S,∃t1∈T,x=onT n t (mvOf t1):=by
 unfold kpT at h
 obtain⟨t0,h0,hm⟩:=List.mem_flatMap.mp h
 obtain⟨v,hv,rfl⟩:=List.mem_map.mp hm
 obtain⟨t1,h1,rfl⟩:=List.mem_map.mp (ϑ2 _ _ (List.mem_filter.mp hv).1)
 exact⟨t0,h0,t1,h1,rfl⟩
theorem ϝX {n:Int}{M T:List Mk} (nd:M.Nodup) (ok:∀m∈T,0≤m.1∧m.1 < n):(kpM n M T).Nodup:=by
 unfold kpM
 refine ϛ6 nd (fun m _=>List.Pairwise.map _ (fun a b hab e=>hab ?_) (ϰ_ _)) fun a _ b _ y ha hb=>?_
 ·obtain⟨p,hp,rfl⟩:=List.mem_map.mp ha
  obtain⟨q,hq,e⟩:=List.mem_map.mp hb
  obtain⟨m1,h1,rfl⟩:=List.mem_map.mp (ϑ2 _ _ hp)
  obtain⟨m2,h2,rfl⟩:=List.mem_map.mp (ϑ2 _ _ hq)
  have e1:=congrArg Prod.fst e
  have e2:=congrArg Prod.snd e
  dsimp only at e1 e2
  have d1:=ϰ1 (a:=a.1) (ok m1 h1).1 (ok m1 h1).2
  have d2:=ϰ1 (a:=b.1) (ok m2 h2).1 (ok m2 h2).2
  rw[← e1,d2] at d1
  exact Prod.ext d1.symm e2.symm
 ·have:=congrArg Prod.fst e
  dsimp only at this
  omega
theorem nd_kpT {n:Int}{S T:List Stp} (nd:S.Nodup) (ok:∀t∈T,0≤t.1∧t.1 < n∧0≤t.2.2.2∧t.2.2.2 < n):(kpT n S T).Nodup:=by
 unfold kpT
 refine ϛ6 nd (fun t _=>?_) fun a _ b _ y ha hb=>?_
 ·refine List.pairwise_map.mpr (List.Pairwise.imp_of_mem ?_ (List.Pairwise.filter _ (ϰ_ _)))
  intro p q hp hq hne e
  have p1:=of_decide_eq_true (List.mem_filter.mp hp).2
  have q1:=of_decide_eq_true (List.mem_filter.mp hq).2
  have e1:=congrArg Prod.fst e
  have e2:=congrArg (fun z:Stp=>z.2.2.2) e
  unfold onT at e1 e2
  dsimp only at e1 e2
  exact hne (Prod.ext (by omega) (Prod.ext (p1.trans q1.symm) (by show p.2.2=q.2.2;omega)))
 ·obtain⟨p,hp,rfl⟩:=List.mem_map.mp ha
  obtain⟨q,hq,e⟩:=List.mem_map.mp hb
  obtain⟨m1,h1,rfl⟩:=List.mem_map.mp (ϑ2 _ _ (List.mem_filter.mp hp).1)
  obtain⟨m2,h2,rfl⟩:=List.mem_map.mp (ϑ2 _ _ (List.mem_filter.mp hq).1)
  have e1:=congrArg Prod.fst e
  have e2:=congrArg (fun z:Stp=>z.2.2.2) e
  have e3:(onT n b (mvOf m2)).2.1=(onT n a (mvOf m1)).2.1:=congrArg (fun z:Stp=>z.2.1) e
  have e4:(onT n b (mvOf m2)).2.2.1=(onT n a (mvOf m1)).2.2.1:=congrArg (fun z:Stp=>z.2.2.1) e
  unfold onT mvOf at e1 e2
  dsimp only at e1 e2
  have b1:=ok m1 h1
  have b2:=ok m2 h2
  have d1:=ϰ1 (a:=a.1) b1.1 b1.2.1
  have d2:=ϰ1 (a:=b.1) b2.1 b2.2.1
  have d3:=ϰ1 (a:=a.2.2.2) b1.2.2.1 b1.2.2.2
  have d4:=ϰ1 (a:=b.2.2.2) b2.2.2.1 b2.2.2.2
  rw[← e1,d2] at d1
  rw[← e2,d4] at d3
  exact Prod.ext d1.symm (Prod.ext e3.symm (Prod.ext e4.symm d3.symm))
theorem ϡi {a n R p:Int} (a0:0≤a) (a1:a < R) (p0:0≤p) (p1:p < n):0≤a*n+p∧a*n+p < R*n:=by
 have h1:0≤a*n:=Int.mul_nonneg a0 (by omega)
 have h2:(a+1)*n≤R*n:=Int.mul_le_mul_of_nonneg_right (by omega) (by omega)
 rw[Int.add_mul,Int.one_mul] at h2
 omega
structure Rd (s:Scr):Prop where
 n:Nice s
 sh:ϟ6 s
 lb:s.begins.length≤999
 ls:s.steps.length≤9999
 le:s.ends.length≤999
 sg:SgL s.steps
theorem Dr.rd {s:Scr} (h:Dr s):Rd s:=⟨h.n,h.sh,by have:=h.lb;omega,by have:=h.ls;omega,by have:=h.le;omega,s.signs,h.g5,h.gs⟩
theorem Dr.rdM {s:Scr} (h:Dr s):Rd (mirS s):=by
 refine⟨h.n.mir,⟨fun m hm=>?_,fun t ht=>?_,fun m hm=>?_⟩,by show(s.ends.map rvM).length≤999;rw[List.length_map];have:=h.le;omega,by show(s.steps.map rvT).length≤9999;rw[List.length_map];have:=h.ls;omega,by show(s.begins.map rvM).length≤999;rw[List.length_map];have:=h.lb;omega,s.signs,h.g5,fun t ht=>?_⟩
 ·obtain⟨m0,h0,rfl⟩:=List.mem_map.mp (show m∈s.ends.map rvM from hm)
  show(rvS m0.2).length≤100
  rw[ϰ8];have:=h.we m0 h0;omega
 ·obtain⟨t0,h0,rfl⟩:=List.mem_map.mp (show t∈s.steps.map rvT from ht)
  refine⟨(h.sh.2.1 t0 h0).1,?_⟩
  show(rvS t0.2.2.1).length≤100
  rw[ϰ8];have:=h.ws t0 h0;omega
 ·obtain⟨m0,h0,rfl⟩:=List.mem_map.mp (show m∈s.begins.map rvM from hm)
  show(rvS m0.2).length≤100
  rw[ϰ8];have:=h.wb m0 h0;omega
 ·obtain⟨t0,h0,rfl⟩:=List.mem_map.mp (show t∈s.steps.map rvT from ht)
  exact h.gs t0 h0
structure Fl (s u:Scr):Prop where
 g:u.signs=s.signs
 r0:0≤u.rooms
 r8:s.rooms*u.rooms≤8
 rm:u.rooms≤8
 lb:u.begins.length≤20
 ls:u.steps.length≤20
 le:u.ends.length≤20
 mb:∀m∈u.begins,0≤m.1∧m.1 < u.rooms
 ms:∀t∈u.steps,0≤t.1∧t.1 < u.rooms∧0≤t.2.2.2∧t.2.2.2 < u.rooms
 me:∀m∈u.ends,0≤m.1∧m.1 < u.rooms
theorem Fl.ok {s u:Scr} (f:Fl s u):OkR u:=⟨by have:=f.lb;omega,by have:=f.ls;omega,by have:=f.le;omega,by have:=f.rm;omega,f.mb,f.ms,f.me⟩
theorem ϝL {n:Int}{M T:List Mk} (h:T.length≤20):(kpM n M T).length≤20*M.length:=by
 unfold kpM
 refine ϛE fun m _=>?_
 rw[List.length_map]
 have:=ϟQ (T.map fun m:Mk=>m.1)
 rw[List.length_map] at this
 omega
theorem kpT_le {n:Int}{S T:List Stp} (h:T.length≤20):(kpT n S T).length≤20*S.length:=by
 unfold kpT
 refine ϛE fun m _=>?_
 rw[List.length_map]
 have h1:=List.length_filter_le (fun u:Mv=>decide (u.2.1=m.2.1)) (mvs T)
 have:=ϟQ (T.map mvOf)
 rw[List.length_map] at this
 unfold mvs at h1⊢
 omega
theorem Dr.rdK {s u:Scr} (h:Dr s) (f:Fl s u):Rd (kpS s u):=by
 have lb:(kpS s u).begins.length≤999:=by have:=ϝL (n:=u.rooms) (M:=s.begins) f.lb;have:=h.lb;show(kpM u.rooms s.begins u.begins).length≤999;omega
 have le:(kpS s u).ends.length≤999:=by have:=ϝL (n:=u.rooms) (M:=s.ends) f.le;have:=h.le;show(kpM u.rooms s.ends u.ends).length≤999;omega
 have ls:(kpS s u).steps.length≤9999:=by have:=kpT_le (n:=u.rooms) (S:=s.steps) f.ls;have:=h.ls;show(kpT u.rooms s.steps u.steps).length≤9999;omega
 have r0:0≤s.rooms*u.rooms:=Int.mul_nonneg h.n.r0 f.r0
 have okb:∀{M T:List Mk},(∀ m∈M,0≤m.1∧m.1 < s.rooms)→(∀ m∈T,0≤m.1∧m.1 < u.rooms)→∀m∈kpM u.rooms M T,0≤m.1∧m.1 < s.rooms*u.rooms:=fun h1 h2 m hm=>by
  obtain⟨a,ha,b,hb,rfl⟩:=ϲ4 hm
  exact ϡi (h1 a ha).1 (h1 a ha).2 (h2 b hb).1 (h2 b hb).2
 refine⟨⟨⟨lb,by omega,le,by show s.rooms*u.rooms≤999;have:=f.r8;omega,okb h.n.ok.mb f.mb,fun t ht=>?_,okb h.n.ok.me f.me⟩,r0,f.r8,ϝX h.n.nb f.mb,nd_kpT h.n.ns f.ms,ϝX h.n.ne f.me,fun t ht=>?_⟩,⟨fun m hm=>?_,fun t ht=>?_,fun m hm=>?_⟩,lb,ls,le,s.signs,h.g5,fun t ht=>?_⟩
 ·obtain⟨a,ha,b,hb,rfl⟩:=ϵN (show t∈kpT u.rooms s.steps u.steps from ht)
  have z1:=h.n.ok.ms a ha
  have z2:=f.ms b hb
  exact⟨(ϡi z1.1 z1.2.1 z2.1 z2.2.1).1,(ϡi z1.1 z1.2.1 z2.1 z2.2.1).2,ϡi z1.2.2.1 z1.2.2.2 z2.2.2.1 z2.2.2.2⟩
 ·obtain⟨a,ha,b,hb,rfl⟩:=ϵN (show t∈kpT u.rooms s.steps u.steps from ht)
  exact h.n.sg a ha
 ·obtain⟨a,ha,b,hb,rfl⟩:=ϲ4 (show m∈kpM u.rooms s.begins u.begins from hm)
  exact h.sh.1 a ha
 ·obtain⟨a,ha,b,hb,rfl⟩:=ϵN (show t∈kpT u.rooms s.steps u.steps from ht)
  exact h.sh.2.1 a ha
 ·obtain⟨a,ha,b,hb,rfl⟩:=ϲ4 (show m∈kpM u.rooms s.ends u.ends from hm)
  exact h.sh.2.2 a ha
 ·obtain⟨a,ha,b,hb,rfl⟩:=ϵN (show t∈kpT u.rooms s.steps u.steps from ht)
  exact h.gs a ha
theorem ϝR {α:Type}{f:α→α}{r:α→Int}{R:Int}{M:List α} (nd:M.Nodup) (hf:∀a b,f a=f b→a=b) (h1:∀a∈M,r a < R) (h2:∀a∈M,R≤r (f a)):(M++M.map f).Nodup:=
 List.nodup_append.mpr ⟨nd,List.Pairwise.map _ (fun a b hab e=>hab (hf a b e)) nd,fun a ha b hb e=>by
  obtain⟨c,hc,rfl⟩:=List.mem_map.mp hb
  have:=h1 a ha
  have:=h2 c hc
  rw[e] at *
  omega⟩
theorem Dr.rdE {s:Scr} (h:Dr s) (h4:s.rooms≤4):Rd (ϵc s s):=by
 have lb:(ϵc s s).begins.length≤999:=by show(s.begins++s.begins.map (shM s.rooms)).length≤999;rw[List.length_append,List.length_map];have:=h.lb;omega
 have le:(ϵc s s).ends.length≤999:=by show(s.ends++s.ends.map (shM s.rooms)).length≤999;rw[List.length_append,List.length_map];have:=h.le;omega
 have ls:(ϵc s s).steps.length≤9999:=by show(s.steps++s.steps.map (shT s.rooms)).length≤9999;rw[List.length_append,List.length_map];have:=h.ls;omega
 have r0:=h.n.r0
 have cm:∀{M:List Mk}{P:Mk→Prop},(∀ m∈M,P m)→(∀ m∈M,P (shM s.rooms m))→∀m∈M++M.map (shM s.rooms),P m:=fun h1 h2 m hm=>by
  rcases List.mem_append.mp hm with hm|hm
  ·exact h1 m hm
  ·obtain⟨m0,h0,rfl⟩:=List.mem_map.mp hm
   exact h2 m0 h0
 have ct:∀{P:Stp→Prop},(∀ t∈s.steps,P t)→(∀ t∈s.steps,P (shT s.rooms t))→∀t∈s.steps++s.steps.map (shT s.rooms),P t:=fun h1 h2 m hm=>by
  rcases List.mem_append.mp hm with hm|hm
  ·exact h1 m hm
  ·obtain⟨m0,h0,rfl⟩:=List.mem_map.mp hm
   exact h2 m0 h0
 have okm:∀{M:List Mk},(∀ m∈M,0≤m.1∧m.1 < s.rooms)→∀m∈M++M.map (shM s.rooms),0≤m.1∧m.1 < s.rooms+s.rooms:=fun h1=>cm (fun m hm=>by have:=h1 m hm;omega) (fun m hm=>by have:=h1 m hm;show 0≤m.1+s.rooms∧m.1+s.rooms < s.rooms+s.rooms;omega)
 have im:∀a b:Mk,shM s.rooms a=shM s.rooms b→a=b:=fun a b e=>by
  have e1:a.1+s.rooms=b.1+s.rooms:=congrArg Prod.fst e
  have e2:(shM s.rooms a).2=(shM s.rooms b).2:=congrArg Prod.snd e
  exact Prod.ext (by omega) e2
 have it:∀a b:Stp,shT s.rooms a=shT s.rooms b→a=b:=fun a b e=>by
  have e1:a.1+s.rooms=b.1+s.rooms:=congrArg Prod.fst e
  have e2:(shT s.rooms a).2.1=(shT s.rooms b).2.1:=congrArg (fun z:Stp=>z.2.1) e
  have e3:(shT s.rooms a).2.2.1=(shT s.rooms b).2.2.1:=congrArg (fun z:Stp=>z.2.2.1) e
  have e4:a.2.2.2+s.rooms=b.2.2.2+s.rooms:=congrArg (fun z:Stp=>z.2.2.2) e
  exact Prod.ext (by omega) (Prod.ext e2 (Prod.ext e3 (by show a.2.2.2=b.2.2.2;omega)))
 have ndm:∀{M:List Mk},M.Nodup→(∀ m∈M,0≤m.1∧m.1 < s.rooms)→(M++M.map (shM s.rooms)).Nodup:=fun nd h1=>ϝR (r:=fun m=>m.1) (R:=s.rooms) nd im (fun a ha=>(h1 a ha).2) (fun a ha=>by have:=h1 a ha;show s.rooms≤a.1+s.rooms;omega)
 refine⟨⟨⟨lb,by omega,le,by show s.rooms+s.rooms≤999;omega,okm h.n.ok.mb,ct (fun t ht=>?_) (fun t ht=>?_),okm h.n.ok.me⟩,by show 0≤s.rooms+s.rooms;omega,by show s.rooms+s.rooms≤8;omega,ndm h.n.nb h.n.ok.mb,ϝR (r:=fun t=>t.1) (R:=s.rooms) h.n.ns it (fun a ha=>(h.n.ok.ms a ha).2.1) (fun a ha=>by have:=h.n.ok.ms a ha;show s.rooms≤a.1+s.rooms;omega),ndm h.n.ne h.n.ok.me,ct h.n.sg h.n.sg⟩,⟨cm h.sh.1 h.sh.1,ct h.sh.2.1 h.sh.2.1,cm h.sh.2.2 h.sh.2.2⟩,lb,ls,le,s.signs,h.g5,ct h.gs h.gs⟩
 ·have:=h.n.ok.ms t ht
  show 0≤t.1∧t.1 < s.rooms+s.rooms∧0≤t.2.2.2∧t.2.2.2 < s.rooms+s.rooms
  omega
 ·have:=h.n.ok.ms t ht
  show 0≤t.1+s.rooms∧t.1+s.rooms < s.rooms+s.rooms∧0≤t.2.2.2+s.rooms∧t.2.2.2+s.rooms < s.rooms+s.rooms
  omega
theorem tw_use {K:Frag}{c:Addr}{H:Hp}{Q:VK}{E:XK}{v:V}{s:Scr}{pb ps pe:Addr} (hV:ScV K H s v pb ps pe) (rd:Rd s) (hN:ϕG s→∀H',Same H H'→Q .non H') (hS:¬ ϕG s→∀t H',Same H H'→Q (.ref t) H'):spTW K c [v] H Q E:=
 ⟨v,s,pb,ps,pe,rfl,hV,rd.n.ok,rd.sh,rd.lb,rd.ls,rd.le,rd.sg,rd.n.r0,fun _=>⟨fun h H' g=>hN ((ϵj rd.n h).mp rfl) H' g,fun w1 w2 h t _ _ _ _ H' g _ _ _ _ _ _=>hS (fun z=>nomatch (ϵj rd.n h).mpr z) t H' g⟩,fun h8=>absurd h8 (by have:=rd.n.r8;omega)⟩
def ϵI (K:Frag):Sp:=fun vs H Q _=>∃(a:Addr) (ns:List Int),∃v s pb ps pe,vs=[.ref a,v]∧SqL K H a (ns.map V.int)∧ns.length≤21∧ScV K H s v pb ps pe∧Dr s∧∀v' H' u qb qs qe,Same H H'→ScV K H' u v' qb qs qe→Fl s u→Q v' H'
theorem ϛn {r:Int} (r0:0≤r) (r8:r≤8):∀x:Int,x≤(if (1:Int) > (if (8:Int) < 8 / (if (1:Int) > r then 1 else r) then 8 else 8 / (if (1:Int) > r then 1 else r)) then 1 else (if (8:Int) < 8 / (if (1:Int) > r then 1 else r) then 8 else 8 / (if (1:Int) > r then 1 else r)))→r*x≤8∧x≤8:=by
 have h:r=0∨r=1∨r=2∨r=3∨r=4∨r=5∨r=6∨r=7∨r=8:=by omega
 rcases h with rfl|rfl|rfl|rfl|rfl|rfl|rfl|rfl|rfl<;>intro x hx<;>(revert hx;simp;try omega)
theorem ϝw {K:Frag}{c:Addr}{H:Hp}{Q:VK}{E:XK}{v:V}{s:Scr}{pb ps pe:Addr}{b:Bool} (hV:ScV K H s v pb ps pe) (rd:Rd s) (hb:b=true↔ϕG s) (h:∀x H',Same H H'→decide (x=V.non)=b→Q x H'):spTW K c [v] H Q E:=
 tw_use hV rd (fun sg H' g=>h _ H' g (by rw[hb.mpr sg];rfl)) (fun sg t H' g=>h _ H' g (by
  cases b with
  |false=>rfl
  |true=>exact absurd (hb.mp rfl) sg))
theorem ϡg {ns:List Int}:∀ys:List V,(∀ v∈ys,v∈ns.map V.int)→∃ms:List Int,ys=ms.map V.int
 |[],_=>⟨[],rfl⟩
 |y::ys,h=>by
  obtain⟨ms,rfl⟩:=ϡg ys fun v hv=>h v (List.mem_cons_of_mem _ hv)
  obtain⟨n,_,rfl⟩:=List.mem_map.mp (h y (List.mem_cons_self ..))
  exact⟨n::ms,rfl⟩
theorem cut_21 (xs:List V) (k:Nat):(cutV xs none (some (k:Int))).length≤k:=by
 unfold cutV
 rw[HT.sIx_none,HT.sIx_nat,List.length_take]
 omega
theorem ϝA (ns:List Int) (k:Nat):cutV (ns.map V.int) none (some (k:Int))=(ns.take k).map V.int:=by
 unfold cutV
 rw[HT.sIx_none,HT.sIx_nat,List.length_map,List.drop_zero,Nat.sub_zero,List.map_take]
 apply List.ext_getElem?
 intro i
 rw[List.getElem?_take,List.getElem?_take,List.getElem?_map]
 by_cases h:i < ns.length
 ·by_cases hk:i < k
  ·rw[if_pos (by omega),if_pos hk]
  ·rw[if_neg (by omega),if_neg hk]
 ·rw[List.getElem?_eq_none (by omega)]
  simp
theorem bdOf {s:Scr} (h:Dr s):Bd s:=⟨by have:=h.lb;omega,by have:=h.ls;omega,by have:=h.le;omega,h.wb,h.ws,h.we⟩
section
seal L2.PE L2.PT L2.PW L2.PA L2.PS L2.PSs L2.PC L2.PG L2.PGs L2.PI L2.PO
variable {P:Program}{w:World}{K:Frag}{mg:Str→Option Value}{base:Heap}
theorem ϰp:FnScope ["one","other"] ["one","other"] (ϖj ϖX):=⟨rfl,rfl,rfl,by decide +kernel,rfl,by decide +kernel,by decide +kernel⟩
theorem ϰc (B:Bi mg) {ϖc ϖg:Addr} (XB:Xb K mg ϖc ϖg)  {f:Addr}{fd:FuncData} (F:Fun K "refuse_other_signs" "refuse_other_signs" ϖX f fd):FnOk P w K mg base (CX1 P w) 1 f fd ["one","other"] (ϵu K ϖc):=by
 refine Fun.ok1 F ϰp (fun vs H Q E h=>?_) (fun cdv A outer s H vs Q E hr h=>?_)
 ·obtain⟨v,s,pb,ps,pe,w,u,qb,qs,qe,rfl,_⟩:=h;rfl
 obtain⟨v,s,pb,ps,pe,w,u,qb,qs,qe,rfl,hV,hU,q,hE⟩:=h
 refine⟨_,(ϖk (ϑx (ϖI ϛS (ϖo (kIx (K:=K) rIxT ϖl) (pv 0) (ϖm (by rfl) B.SIGNS) (by intro _ _;rfl)) (ϖo (kIx (K:=K) rIxT ϖl) (pv 1) (ϖm (by rfl) B.SIGNS) (by intro _ _;rfl)) (ϖY _)) (ϖk (ϱv XB.own_OtherSigns (by rfl) (by rfl) ϱz ϕY)) ϖN)),?_⟩
 obtain⟨a,xb,xs,xe,rfl,h1,h2,h3,h4,h5,h6,h7⟩:=hV
 obtain⟨b,yb,ys,ye,rfl,k1,k2,k3,k4,k5,k6,k7⟩:=hU
 refine⟨_,rfl,_,_,_,_,rfl,rfl,h1,rfl,_,rfl,_,_,_,_,rfl,rfl,k1,rfl,rfl,_,rfl,ϟa (fun c=>?_) (fun c=>?_)⟩
 ·exact⟨rfl,hE (fun z=>c (by rw[z]))⟩
 ·exact q (by injection c)
theorem ϰC:FnScope ["one","other"] ["one","other"] (ϖj ϖ2):=⟨rfl,rfl,rfl,by decide +kernel,rfl,by decide +kernel,by decide +kernel⟩
theorem ϰB (B:Bi mg) {ϖc ϖg:Addr} (XB:Xb K mg ϖc ϖg)  {f:Addr}{fd:FuncData} (F:Fun K "refuse_many_pairs" "refuse_many_pairs" ϖ2 f fd):FnOk P w K mg base (CX1 P w) 1 f fd ["one","other"] (ϵV K ϖg):=by
 refine Fun.ok1 F ϰC (fun vs H Q E h=>?_) (fun cdv A outer s H vs Q E hr h=>?_)
 ·obtain⟨v,s,pb,ps,pe,w,u,qb,qs,qe,rfl,_⟩:=h;rfl
 obtain⟨v,s,pb,ps,pe,w,u,qb,qs,qe,rfl,hV,hU,hn,q,hE⟩:=h
 refine⟨_,(ϖk (ϑx (ϖI ϱn (ϖu ϑq (ϖo (kIx (K:=K) rIxT ϖl) (pv 0) (ϖm (by rfl) B.ROOMS) (by intro _ _;rfl)) (ϖo (kIx (K:=K) rIxT ϖl) (pv 1) (ϖm (by rfl) B.ROOMS) (by intro _ _;rfl))) (ϖm (by rfl) B.MOST_ROOMS) (ϖY _)) (ϖk (ϱv XB.own_TooMany (by rfl) (by rfl) ϱz ϕY)) ϖN)),?_⟩
 obtain⟨a,xb,xs,xe,rfl,h1,h2,h3,h4,h5,h6,h7⟩:=hV
 obtain⟨b,yb,ys,ye,rfl,k1,k2,k3,k4,k5,k6,k7⟩:=hU
 refine⟨_,rfl,_,_,_,_,rfl,rfl,h1,rfl,_,rfl,_,_,_,_,rfl,rfl,k1,rfl,_,_,rfl,rfl,.inl ⟨by have:=hn.1;omega,by have:=hn.2;omega⟩,_,_,rfl,rfl,_,rfl,ϕx (fun c=>?_) (fun c=>?_)⟩
 ·exact⟨rfl,hE (by omega)⟩
 ·exact q (by omega)
theorem sc_places_at:FnScope ["steps","side","found","place","step"] ["steps","side"] (ϖj ϕe):=⟨rfl,rfl,rfl,by decide +kernel,rfl,by decide +kernel,by decide +kernel⟩
theorem ϵ5 (B:Bi mg) {ϖc ϖg:Addr} (XB:Xb K mg ϖc ϖg)  {f:Addr}{fd:FuncData} (F:Fun K "places_at" "places_at" ϕe f fd):FnOk P w K mg base CX0 1 f fd ["steps","side"] (ϱY K):=by
 refine F.ok sc_places_at (fun vs H Q E h=>?_) (fun cdv A outer s H vs Q E hr h=>?_)
 ·obtain⟨a,n,rfl,_⟩:=h;rfl
 obtain⟨a,n,rfl,hn,h⟩:=h
 refine⟨_,(ϖf (ϖp (i:=2) sc_places_at.nd rfl (Or.inl rfl) (pe_or ϰu ϕ0))
   (ϖf (ϑd PassesOwn.never (by rfl) (kPI (K:=K) (fun k=>iEnu k _) (ϵq (by rfl) B.enumerate (ϖa (pv 0) ϖh))) (kPG (K:=K) (fun k=>gTup k 2 _) (ϑr (n:=2) (by rfl) (ϖs (ϖr (i:=3) sc_places_at.nd rfl (Or.inl rfl)) (ϖs (ϖr (i:=4) sc_places_at.nd rfl (Or.inl rfl)) ϖ6)))) (ϖk (ϑm (kPE (K:=K) (fun k=>tBM k _ _ _ _) (ϕv PySem.F.plainAttrs_list PySem.F.slot_list_append PySem.F.type_list_append ϑh (kPE (K:=K) (fun k=>tBM k _ _ _ _) (ϕv PySem.F.plainAttrs_dict PySem.F.slot_dict_setdefault PySem.F.type_dict_setdefault (ϕ3 hr) (pv 2) (ϖa (hs:=ϖA) (ϖo (kIx (K:=K) rIxT ϖl) (pv 4) (pv 1) (by intro _ _;rfl)) (ϖa (hs:=ϱ2) (ϑa ϖh) ϖh)))) (ϖa (pv 3) ϖh))))))
   (ϖk (ϖF (pv 2))))),?_⟩
 rcases h with⟨S,⟨xs,h3,h6⟩,hs,q⟩|⟨N,S,⟨xs,h3,h6⟩,hs,q⟩
 ·have hsx:S.length=xs.length:=h6.length
  refine .inl fun d hd=>?_
  have g0:=ϖe hd (.dK [])
  refine⟨_,rfl,a,rfl,⟨xs,g0.seq h3⟩,?_⟩
  let Iv_1:Nat→L2.St→Hp→Prop:=(fun i σ H'=>Same H H'∧i≤xs.length∧(∃ x y,σ=[some (.ref a),some (.int n),some (.ref d),x,y])∧∃kvs,H' d=some (.dK kvs)∧Bk isQ (keyP n S) H H' d (List.range i) kvs)
  refine ϕN (xs:=xs) Iv_1
   ⟨g0,Nat.zero_le _,⟨_,_,rfl⟩,[],ϖd,Bk.nil⟩ (fun i σ H' _ z=>z.1.seq h3) (fun b_ r_ hb_ hr_=>?_) ?_
  ·rintro i x p0 σ H1 hx ⟨g1,hi,⟨x2,x3,rfl⟩,kvs,hkd,bk⟩ hp0
   obtain⟨t,ht,b,rfl,hb⟩:=ϖw h6 hx
   have hil:i < xs.length:=(List.getElem?_eq_some_iff.mp hx).1
   have gp:=ϖe hp0 (.tup [V.int i,V.ref b])
   have ep:=ϖd (H:=H1) (a:=p0) (o:=.tup [V.int i,V.ref b])
   have hkd:=gp _ _ hkd
   have bk:=bk.mono ϰd gp
   have g1:=g1.trans gp
   generalize upd H1 p0 (.tup [V.int i,V.ref b])=H1 at gp ep hkd bk g1⊢
   have hb1:=(Same.grow g1).seqT hb
   have hkl:kvs.length≤999:=by have:=bk.len;rw[List.length_range] at this;omega
   refine⟨p0,_,rfl,SqT.of ep,rfl,_,_,rfl,_,_,rfl,rfl,?_⟩
   refine⟨_,rfl,.inr (.inr (.inl ⟨rfl,.inl ⟨kvs,hkd⟩⟩)),?_⟩
   refine⟨_,rfl,_,rfl,_,_,_,_,rfl,rfl,hb1,ϛM hn t,szl (by simp),fun l hl=>?_⟩
   have gl:=ϖe hl (.lst [])
   have hk2:=gl _ _ hkd
   have bk2:=bk.mono ϰd gl
   have g2:=g1.trans gl
   have el:upd H1 l (.lst []) l=some (.lst []):=ϖd
   have hl0:H l=none:=g1.free hl
   have hln:∀k,valV kvs k≠some (.ref l):=fun k hk=>by
    obtain⟨l',ys,e,_,_,h3',_⟩:=bk.there k _ hk
    injection e with e
    subst e
    rw[h3'] at hl;cases hl
   have hld:l≠d:=(ϖn hkd hl).symm
   generalize upd H1 l (.lst [])=H2 at hk2 bk2 g2 el⊢
   have hkey:keyP n S i=Sum.inl (ϖK n t):=by unfold keyP;rw[ht];rfl
   refine⟨d,V.int (ϖK n t),.ref l,rfl,rfl,.inl ⟨kvs,keyP n S i,hk2,by rw[hkey];rfl,szl' (by omega),fun r hr2=>?_,fun hnn=>?_⟩⟩
   ·obtain⟨l2,ys,rfl,j1,j2,j3,j4,j5⟩:=bk2.there _ _ hr2
    have hyl:ys.length≤999:=by
     rw[← j4.length]
     have:=List.length_filter_le (fun t'=>decide (keyP n S t'=keyP n S i)) (List.range i)
     rw[List.length_range] at this;omega
    refine⟨.inl ⟨rfl,_,SqL.of j3⟩,_,rfl,l2,ys,_,rfl,rfl,j3,szl' (by omega),?_⟩
    refine⟨ϖv g2 j1,hil,⟨_,_,rfl⟩,kvs,by rw[ϖq j2.symm];exact hk2,?_⟩
    rw[List.range_succ]
    exact bk2.put ϰd hr2 j3 rfl
   ·have e3:upd H2 d (.dK (putK kvs (keyP n S i) (.ref l))) l=some (.lst []):=by rw[ϖq hld];exact el
    refine⟨.inl ⟨rfl,_,SqL.of e3⟩,_,rfl,l,[],_,rfl,rfl,e3,szl' (by simp),?_⟩
    refine⟨ϖv (ϖv g2 hd) hl0,hil,⟨_,_,rfl⟩,putK kvs (keyP n S i) (.ref l),by rw[ϖq hld.symm];exact ϖd,?_⟩
    rw[List.range_succ]
    exact bk2.new ϰd hnn hl0 hld hk2 (fun _ z=>nomatch z) (fun _ _ z=>nomatch z) hln el rfl
  rintro σ H1 ⟨g1,_,⟨x2,x3,rfl⟩,kvs,hkd,bk⟩
  rw[← hsx] at bk
  exact⟨_,rfl,q _ _ g1 ⟨d,kvs,rfl,hd,hkd,bk⟩⟩
 ·have hsx:S.length=xs.length:=h6.length
  refine .inr fun d hd=>?_
  have g0:=ϖe hd (.dT [])
  refine⟨_,rfl,a,rfl,⟨xs,g0.seq h3⟩,?_⟩
  let Iv_2:Nat→L2.St→Hp→Prop:=(fun i σ H'=>Same H H'∧i≤xs.length∧(∃ x y,σ=[some (.ref a),some (.int n),some (.ref d),x,y])∧∃kvs,H' d=some (.dT kvs)∧Bk isQ (ϰV N n S) H H' d (List.range i) kvs)
  refine ϕN (xs:=xs) Iv_2
   ⟨g0,Nat.zero_le _,⟨_,_,rfl⟩,[],ϖd,Bk.nil⟩ (fun i σ H' _ z=>z.1.seq h3) (fun b_ r_ hb_ hr_=>?_) ?_
  ·rintro i x p0 σ H1 hx ⟨g1,hi,⟨x2,x3,rfl⟩,kvs,hkd,bk⟩ hp0
   obtain⟨t,ht,b,c0,e0,xx,yy,rfl,hb,hc0,he0⟩:=ϖw h6 hx
   obtain⟨ra,hra,hrt⟩:=ϵA hn hc0 he0
   have hil:i < xs.length:=(List.getElem?_eq_some_iff.mp hx).1
   have gp:=ϖe hp0 (.tup [V.int i,V.ref b])
   have ep:=ϖd (H:=H1) (a:=p0) (o:=.tup [V.int i,V.ref b])
   have hkd:=gp _ _ hkd
   have bk:=bk.mono ϰd gp
   have g1:=g1.trans gp
   generalize upd H1 p0 (.tup [V.int i,V.ref b])=H1 at gp ep hkd bk g1⊢
   have hb1:=(Same.grow g1).seqT hb
   have hkl:kvs.length≤99999:=by have:=bk.len;rw[List.length_range] at this;omega
   refine⟨p0,_,rfl,SqT.of ep,rfl,_,_,rfl,_,_,rfl,rfl,?_⟩
   refine⟨_,rfl,.inr (.inr (.inl ⟨rfl,.inr ⟨kvs,hkd⟩⟩)),?_⟩
   refine⟨_,rfl,_,rfl,_,_,_,_,rfl,rfl,hb1,hra,szl (by simp),fun l hl=>?_⟩
   have gl:=ϖe hl (.lst [])
   have hk2:=gl _ _ hkd
   have bk2:=bk.mono ϰd gl
   have g2:=g1.trans gl
   have el:upd H1 l (.lst []) l=some (.lst []):=ϖd
   have hl0:H l=none:=g1.free hl
   have hln:∀k,valV kvs k≠some (.ref l):=fun k hk=>by
    obtain⟨l',ys,e,_,_,h3',_⟩:=bk.there k _ hk
    injection e with e
    subst e
    rw[h3'] at hl;cases hl
   have hld:l≠d:=(ϖn hkd hl).symm
   generalize upd H1 l (.lst [])=H2 at hk2 bk2 g2 el⊢
   have hkey:ϰV N n S i=keyR N (ϖK n t):=by unfold ϰV;rw[ht];rfl
   refine⟨d,V.ref ra,.ref l,rfl,rfl,.inr ⟨kvs,ϰV N n S i,ra,hk2,rfl,by rw[hkey];exact g2 _ _ hrt,szl' (by omega),fun r hr2=>?_,fun hnn=>?_⟩⟩
   ·obtain⟨l2,ys,rfl,j1,j2,j3,j4,j5⟩:=bk2.there _ _ hr2
    have hyl:ys.length≤99999:=by
     rw[← j4.length]
     have:=List.length_filter_le (fun t'=>decide (ϰV N n S t'=ϰV N n S i)) (List.range i)
     rw[List.length_range] at this;omega
    refine⟨.inl ⟨rfl,_,SqL.of j3⟩,_,rfl,l2,ys,_,rfl,rfl,j3,szl' (by omega),?_⟩
    refine⟨ϖv g2 j1,hil,⟨_,_,rfl⟩,kvs,by rw[ϖq j2.symm];exact hk2,?_⟩
    rw[List.range_succ]
    exact bk2.put ϰd hr2 j3 rfl
   ·have e3:upd H2 d (.dT (putK kvs (ϰV N n S i) (.ref l))) l=some (.lst []):=by rw[ϖq hld];exact el
    refine⟨.inl ⟨rfl,_,SqL.of e3⟩,_,rfl,l,[],_,rfl,rfl,e3,szl' (by simp),?_⟩
    refine⟨ϖv (ϖv g2 hd) hl0,hil,⟨_,_,rfl⟩,putK kvs (ϰV N n S i) (.ref l),by rw[ϖq hld.symm];exact ϖd,?_⟩
    rw[List.range_succ]
    exact bk2.new ϰd hnn hl0 hld hk2 (fun _ z=>nomatch z) (fun _ _ z=>nomatch z) hln el rfl
  rintro σ H1 ⟨g1,_,⟨x2,x3,rfl⟩,kvs,hkd,bk⟩
  rw[← hsx] at bk
  exact⟨_,rfl,q _ _ g1 ⟨d,kvs,rfl,hd,hkd,bk⟩⟩
theorem sc_traces_from:FnScope ["marks","steps","near","far","traces","place","mark","places","front","behind","room","other"] ["marks","steps","near","far"] (ϖj ϑF):=⟨rfl,rfl,rfl,by decide +kernel,rfl,by decide +kernel,by decide +kernel⟩
theorem ϱ9 (B:Bi mg) {ϖc ϖg:Addr} (XB:Xb K mg ϖc ϖg) (ϰK:Cal P w K mg base "places_at" ["steps","side"] 1 (ϱY K)) {f:Addr}{fd:FuncData} (F:Fun K "traces_from" "traces_from" ϑF f fd):FnOk P w K mg base CX0 2 f fd ["marks","steps","near","far"] (ϰ0 K):=by
 refine F.ok sc_traces_from (fun vs H Q E h=>?_) (fun cdv A outer s H vs Q E hr h=>?_)
 ·obtain⟨N,am,M,as_,S,n,f,R,rfl,_⟩:=h;rfl
 obtain⟨N,am,M,as_,S,n,f,R,rfl,⟨xm,hm1,hm2⟩,hSt,lm,ls,hn,hf,hR,bm,bs,q⟩:=h
 refine⟨_,(ϖf (ϖp (i:=4) sc_traces_from.nd rfl (Or.inl rfl) ϕ0)
   (ϖf (ϑd PassesOwn.never (by rfl) (kPI (K:=K) (fun k=>iEnu k _) (ϵq (by rfl) B.enumerate (ϖa (pv 0) ϖh))) (kPG (K:=K) (fun k=>gTup k 2 _) (ϑr (n:=2) (by rfl) (ϖs (ϖr (i:=5) sc_traces_from.nd rfl (Or.inl rfl)) (ϖs (ϖr (i:=6) sc_traces_from.nd rfl (Or.inl rfl)) ϖ6)))) (ϖk (ϑx (ϵg (ϲe (ϑN hr) (ϖo (kIx (K:=K) rIxT ϖl) (pv 6) ϖi (by intro _ _;rfl)) (pv 4))) (ϖk (ϕU (ϑN hr) (pv 4) (ϖo (kIx (K:=K) rIxT ϖl) (pv 6) ϖi (by intro _ _;rfl)) (ϖG (ϖa (pv 5) (ϖa ϕH ϖh))) rfl)) ϖN)))
   (ϖf (ϖp (i:=7) sc_traces_from.nd rfl (Or.inl rfl) (ϖE ϰK hr (by decide:1≤1) (by rfl) (ϖa (pv 1) (ϖa (pv 2) ϖh))))
   (ϖf (ϖp (i:=8) sc_traces_from.nd rfl (Or.inl rfl) (ϰr (ϱH (by rfl)) (by rfl) B.list ϱU (ϖa (pv 4) ϖh)))
   (ϖf (ϡc PassesOwn.never (ϖI (kOp (K:=K) rNeD (ϛf hr.units)) (pv 8) (ϑa ϖh) (ϖY _)) (ϖf (ϖp (i:=9) sc_traces_from.nd rfl (Or.inl rfl) (ϑa ϖh))
   (ϖf (ϑd PassesOwn.never (by rfl) (kPI (K:=K) (fun k=>ϑ3 k _) (ϖZ (pv 8))) (ϖr (i:=10) sc_traces_from.nd rfl (Or.inl rfl)) (ϖk (ϑd PassesOwn.never (by rfl) (kPI (K:=K) (fun k=>ϑ3 k _) (ϖZ (kPE (K:=K) (fun k=>tBM k _ _ _ _) (ϕv PySem.F.plainAttrs_dict PySem.F.slot_dict_get PySem.F.type_dict_get (ϲC hr) (pv 7) (ϖa (pv 10) (ϖa (hs:=ϱ2) (ϑa ϖh) ϖh)))))) (ϖr (i:=5) sc_traces_from.nd rfl (Or.inl rfl)) (ϖf (ϖp (i:=11) sc_traces_from.nd rfl (Or.inl rfl) (ϖo (kIx (K:=K) rIxT ϖl) (ϖo (kIx (K:=K) rIxL ϖD) (pv 1) (pv 5) (by intro _ _;rfl)) (pv 3) (by intro _ _;rfl)))
   (ϖk (ϑx (ϵg (ϲe (ϑN hr) (pv 11) (pv 4))) (ϖf (ϕU (ϑN hr) (pv 4) (pv 11) (ϖG (ϖa (hs:=ϖA) (ϖo (kIx (K:=K) rIxT ϖl) (ϑ5 (ϑN hr) (pv 4) (pv 10) (by intro _ _;rfl)) ϖi (by intro _ _;rfl)) (ϖa (pv 5) ϖh))) rfl)
   (ϖk (ϑm (kPE (K:=K) (fun k=>tBM k _ _ _ _) (ϕv PySem.F.plainAttrs_list PySem.F.slot_list_append PySem.F.type_list_append ϑh (pv 9) (ϖa (pv 11) ϖh)))))) ϖN))))))
   (ϖk (ϖp (i:=8) sc_traces_from.nd rfl (Or.inl rfl) (pv 9))))))
   (ϖk (ϖF (pv 4)))))))),?_⟩
 have hmx:M.length=xm.length:=hm2.length
 refine fun d hd=>?_
 have g0:=ϖe hd (.dT [])
 refine⟨_,rfl,am,rfl,⟨xm,g0.seq hm1⟩,?_⟩
 let Iv_1:Nat→L2.St→Hp→Prop:=(fun i σ H'=>Same H H'∧i≤xm.length∧(∃ x5 x6,σ=[some (.ref am),some (.ref as_),some (.int n),some (.int f),some (.ref d),x5,x6,none,none,none,none,none])∧∃T,TrDP N K H' d T∧TI M S n f T∧T.length≤i∧(∀ m∈M.take i,m.1∈ϖx T)∧(∀ r∈ϖx T,0≤r∧r < R)∧(∀ e∈T,e.2.2=none)∧T=fstT (M.take i) 0 [])
 refine ϕN (xs:=xm) Iv_1
  ⟨g0,Nat.zero_le _,⟨_,_,rfl⟩,[],⟨[],ϖd,.nil⟩,TI.nil,Nat.le_refl _,by simp,by simp[ϖx],by simp,rfl⟩ (fun i σ H' _ z=>z.1.seq hm1) (fun b_ r_ hb_ hr_=>?_) ?_
 ·rintro i x p0 σ H1 hx ⟨g1,hi,⟨x5,x6,rfl⟩,T,⟨kvs,hkd,hp⟩,ti,tl,tm,tb,tz,tq⟩ hp0
  obtain⟨m,hm,b,rb,yy,rfl,hb,hrb⟩:=ϖw hm2 hx
  have hil:i < xm.length:=(List.getElem?_eq_some_iff.mp hx).1
  have gp:=ϖe hp0 (.tup [V.int i,V.ref b])
  have ep:=ϖd (H:=H1) (a:=p0) (o:=.tup [V.int i,V.ref b])
  have hkd:=gp _ _ hkd
  have hp:=ϖb (fun _ _=>EnVP.gt (GT.of gp)) hp
  have g1:=g1.trans gp
  generalize upd H1 p0 (.tup [V.int i,V.ref b])=H1 at gp ep hkd hp g1⊢
  have hb1:=(Same.grow g1).seqT hb
  have hkl:kvs.length=T.length:=hp.length.symm
  refine⟨p0,_,rfl,SqT.of ep,rfl,_,_,rfl,_,_,rfl,rfl,?_⟩
  refine⟨_,rfl,_,_,_,_,rfl,rfl,hb1,ϖQ (j:=0) rfl,_,rfl,d,_,rfl,DGet.t (k:=keyR N m.1) hkd (g1 _ _ hrb),_,rfl,?_⟩
  cases hv:valV kvs (keyR N m.1) with
  |some v=>
   refine iteF ?_
   have hin:m.1∈ϖx T:=Classical.byContradiction fun z=>by rw[(ϕW hp).mpr z] at hv;cases hv
   refine⟨g1,hil,⟨_,_,rfl⟩,T,⟨kvs,hkd,hp⟩,ti,by omega,fun m' h'=>?_,tb,tz,by rw[ϡX hm,← tq,ϱ0,if_pos hin]⟩
   rw[ϖz hm] at h'
   rcases List.mem_append.mp h' with h'|h'
   ·exact tm m' h'
   ·rw[List.mem_singleton.mp h'];exact hin
  |none=>
   have hnot:=(ϕW hp).mp hv
   refine iteT ?_
   refine⟨_,rfl,(by show 2≤sizeLine;decide),fun p hp2=>?_⟩
   have g2:=ϖe hp2 (.tup [V.int i,V.non])
   have e2:=ϖd (H:=H1) (a:=p) (o:=.tup [V.int i,V.non])
   have hkd:=g2 _ _ hkd
   have hp:=ϖb (fun _ _=>EnVP.gt (GT.of g2)) hp
   have hb2:=(Same.grow g2).seqT hb1
   have g12:=g1.trans g2
   generalize upd H1 p (.tup [V.int i,V.non])=H2 at g2 e2 hkd hp hb2 g12⊢
   refine⟨_,rfl,_,rfl,_,_,_,_,rfl,rfl,hb2,ϖQ (j:=0) rfl,d,_,rfl,DPut.t (k:=keyR N m.1) hkd (g12 _ _ hrb) (szl' (by omega)),?_⟩
   refine⟨ϖv g12 hd,hil,⟨_,_,rfl⟩,T++[(m.1,i,none)],TrDP.put (e:=(m.1,i,none)) hkd hp hnot e2,ti.snoc hnot (.inl ⟨rfl,m,hm,rfl⟩),by rw[List.length_append,List.length_singleton];omega,fun m' h'=>?_,fun r hr=>?_,fun e he=>?_,by rw[ϡX hm,← tq,ϱ0,if_neg hnot]⟩
   ·rw[ϕm]
    rw[ϖz hm] at h'
    rcases List.mem_append.mp h' with h'|h'
    ·exact List.mem_append_left _ (tm m' h')
    ·rw[List.mem_singleton.mp h'];exact List.mem_append_right _ (by simp)
   ·rw[ϕm] at hr
    rcases List.mem_append.mp hr with hr|hr
    ·exact tb r hr
    ·rw[List.mem_singleton.mp hr];exact bm m (List.mem_of_getElem? hm)
   ·rcases List.mem_append.mp he with he|he
    ·exact tz e he
    ·rw[List.mem_singleton.mp he]
 rintro σ H1 ⟨g1,_,⟨x5,x6,rfl⟩,T0,hT0,ti0,tl0,tm0,tb0,tz0,tq0⟩
 rw[← hmx,List.take_length] at tm0 tq0
 have tfst:∀m∈M,∃e∈T0,e.1=m.1∧e.2.2=none:=fun m hm=>by
  have h1:=tm0 m hm
  unfold ϖx at h1
  obtain⟨e,he,e1⟩:=List.mem_map.mp h1
  exact⟨e,he,e1,tz0 e he⟩
 have hSt1:StLG N K H1 as_ S:=let ⟨xs,h1,h2⟩:=hSt;⟨xs,g1.seq h1,ϖb (fun _ _=>StG.mono g1) h2⟩
 refine⟨_,rfl,_,rfl,as_,n,rfl,hn,.inr ⟨N,S,hSt1,ls,fun vP Hq gq hP=>?_⟩⟩
 obtain⟨pd,kvp,rfl,hpd0,hpd,bk⟩:=hP
 have hTq:=hT0.mono gq
 obtain⟨kvs0,hkd0,hp0⟩:=id hTq
 refine⟨_,rfl,d,rfl,.inr ⟨kvs0,hkd0,fun bs0 lf pbs hlf=>?_⟩⟩
 have hkf:=ϟO hp0 pbs
 generalize bs0.map V.ref=yf at hkf⊢
 have glf:=ϖe hlf (.lst (yf))
 have elf:=ϖd (H:=Hq) (a:=lf) (o:=.lst (yf))
 have kb0:KB d Hq (upd Hq lf (.lst (yf))):=fun b o _ z=>glf b o z
 have hT1:=hTq.mono glf
 generalize upd Hq lf (.lst (yf))=H2 at glf elf kb0 hT1⊢
 have hqd:Hq d≠none:=by rw[hkd0];exact fun z=>nomatch z
 have gq0:Same H Hq:=g1.trans gq
 have hpdd:pd≠d:=fun z=>by rw[z] at hpd0;obtain⟨k1,k2,_⟩:=hT0;rw[k2] at hpd0;cases hpd0
 obtain⟨xs,hs1,hs2⟩:=hSt
 have hsx:S.length=xs.length:=hs2.length
 obtain⟨Rn,hRn⟩:∃N:Nat,R≤(N:Int)∧N≤999:=⟨R.toNat,by omega,by omega⟩
 have cap:∀T:List En,TI M S n f T→(∀ r∈ϖx T,0≤r∧r < R)→T.length≤Rn:=fun T ti tb=>by
  have:=ϱ1 Rn (ϖx T) ti.nd fun x hx=>⟨(tb x hx).1,by have:=(tb x hx).2;omega⟩
  unfold ϖx at this
  rw[List.length_map] at this;exact this
 refine⟨fun mm σ H'=>∃(lf:Addr) (fr:List Int) (yf:List V) (T:List En) (x5 x9 x10 x11:Option V),mm=2*(Rn-T.length)+min fr.length 1∧σ=[some (.ref am),some (.ref as_),some (.int n),some (.int f),some (.ref d),x5,x6,some (.ref pd),some (.ref lf),x9,x10,x11] ∧
   KB d Hq H'∧H' lf=some (.lst yf)∧Paired (RmV N Hq) fr yf∧TrDP N K H' d T∧TI M S n f T∧T0 <+: T∧(∀ m∈M,m.1∈ϖx T)∧(∀ r∈ϖx T,0≤r∧r < R)∧(∀ r∈fr,r∈ϖx T)∧(∀ r∈ϖx T,r∈fr∨DoneT S n f T r)∧(∀ Z,BfsR S n f T fr Z→ϛ7 M S n f Z),
  ⟨_,lf,ϖx T0,yf,T0,_,_,_,_,rfl,rfl,kb0,elf,hkf,hT1,ti0,List.prefix_refl _,tm0,tb0,fun r hr=>hr,fun r hr=>.inl hr,fun Z hz=>by unfold ϛ7;rw[← tq0];exact hz⟩,?_⟩
 clear hT1 kb0 elf glf hkf hlf lf H2 hTq yf
 rintro mm σ H2 ⟨lf,fr,yf,T,x5,x9,x10,x11,rfl,rfl,kb,elf,hyf,hT,ti,tp,tm,tb,tf,tc,tr⟩
 refine⟨_,rfl,szl (by simp),fun l0 hl0=>?_⟩
 have gl0:=ϖe hl0 (.lst [])
 have el0:=ϖd (H:=H2) (a:=l0) (o:=.lst [])
 have kb:=kb.then gl0
 have elf:=gl0 _ _ elf
 have hT:=hT.mono gl0
 generalize upd H2 l0 (.lst [])=H3 at gl0 el0 kb elf hT⊢
 refine⟨.lst (fr.map (dRm N)),.lst [],ϕ_ (SqL.of elf) (ϡp (rmKb kb hkd0 hyf)),ϕ_ (SqL.of el0) .nil,by have:=ϡu N fr;simp only[deep];omega,_,rfl,?_⟩
 rw[ϛQ]
 refine ϟa (fun hfr=>?_) (fun hfr=>?_)
 rotate_left
 ·subst hfr
  refine⟨_,rfl,q d T H3 (kb.same gq0 hd) hd hT ⟨ti,tm,fun r hr=>?_,tb,fun m hm=>by obtain⟨e,h1,h2⟩:=tfst m hm;exact⟨e,tp.subset h1,h2⟩,tr _ (.done T)⟩⟩
  rcases tc r hr with z|z
  ·cases z
  ·exact z
 have hfl:0 < fr.length:=List.length_pos_iff.mpr hfr
 refine⟨_,fun σ' H' z=>z,?_⟩
 refine⟨szl (by simp),fun lb hlb=>?_⟩
 have glb:=ϖe hlb (.lst [])
 have elb:=ϖd (H:=H3) (a:=lb) (o:=.lst [])
 have hlb0:Hq lb=none:=by
  cases z:Hq lb with
  |none=>rfl
  |some o=>
   by_cases y:lb=d
   ·obtain⟨k1,k2,_⟩:=hT;rw[y,k2] at hlb;cases hlb
   ·rw[kb _ _ y z] at hlb;cases hlb
 have hbf:lf≠lb:=ϖn elf hlb
 have hbd:lb≠d:=fun z=>by obtain⟨k1,k2,_⟩:=hT;rw[z,k2] at hlb;cases hlb
 have hfd:lf≠d:=fun z=>by obtain⟨k1,k2,_⟩:=hT;rw[z,k2] at elf;cases elf
 have kb:=kb.then glb
 have elf:=glb _ _ elf
 have hT:=hT.mono glb
 generalize upd H3 lb (.lst [])=H4 at glb elb kb elf hT⊢
 refine⟨_,rfl,lf,rfl,⟨_,SqL.of elf⟩,?_⟩
 let Iv_2:Nat→L2.St→Hp→Prop:=(fun i σ H'=>∃(T':List En) (beh:List Int) (yb:List V) (x5 x10 x11:Option V),σ=[some (.ref am),some (.ref as_),some (.int n),some (.int f),some (.ref d),x5,x6,some (.ref pd),some (.ref lf),some (.ref lb),x10,x11] ∧
   KB d Hq H'∧H' lf=some (.lst yf)∧Paired (RmV N Hq) fr yf∧H' lb=some (.lst yb)∧Paired (RmV N Hq) beh yb∧TrDP N K H' d T'∧TI M S n f T'∧T0 <+: T'∧(∀ m∈M,m.1∈ϖx T')∧(∀ r∈ϖx T',0≤r∧r < R)∧T'.length=T.length+beh.length∧(∀ r∈fr,r∈ϖx T')∧(∀ r∈beh,r∈ϖx T')∧(∀ r∈ϖx T',r∈beh∨r∈fr.drop i∨DoneT S n f T' r)∧(T',beh)=(fr.take i).foldl (lay1 S n f) (T,[]))
 refine ϖ5 (xs:=yf) Iv_2
  ⟨T,[],[],_,_,_,rfl,kb,elf,hyf,elb,.nil,hT,ti,tp,tm,tb,rfl,tf,fun r hr=>(nomatch hr),fun r hr=>.inr (tc r hr),rfl⟩ (fun i σ H' _ z=>by obtain⟨_,_,_,_,_,_,_,_,z,_⟩:=z;exact SqL.of z) (fun b_ r_ hb_ hr_=>?_) ?_
 ·clear kb elf elb hT ti tp tm tb glb gl0 el0 tf tc
  rintro i x σ H5 hx ⟨T1,beh,yb,x5',x10',x11',rfl,kb,elf,_,elb,hyb,hT,ti,tp,tm,tb,tl,tf,tbh,tc,tq1⟩
  obtain⟨r,hri,rb,rfl,hrb⟩:=ϖw hyf hx
  have hpd5:=kb _ _ hpdd hpd
  have hrT:=tf r (List.mem_of_getElem? hri)
  refine⟨_,rfl,.inr (.inr (.inl ⟨rfl,.inr ⟨kvp,hpd5⟩⟩)),_,rfl,szl (by simp),fun l1 hl1=>?_⟩
  have gl1:=ϖe hl1 (.lst [])
  have el1:=ϖd (H:=H5) (a:=l1) (o:=.lst [])
  have hl1b:l1≠lb:=(ϖn elb hl1).symm
  have hl1d:l1≠d:=fun z=>by obtain⟨k1,k2,_⟩:=hT;rw[z,k2] at hl1;cases hl1
  have kb:=kb.then gl1
  have elf:=gl1 _ _ elf
  have elb:=gl1 _ _ elb
  have hT:=hT.mono gl1
  have hpd6:=gl1 _ _ hpd5
  generalize upd H5 l1 (.lst [])=H6 at gl1 el1 kb elf elb hT hpd6⊢
  have hd1:H1 d≠none:=by obtain⟨k1,k2,_⟩:=hT0;rw[k2];exact fun z=>nomatch z
  obtain⟨la,hla1,hla2,hla3⟩:=ϛP (bk_kbP bk hd1 kb) r el1
  refine⟨pd,.ref rb,.ref l1,_,rfl,rfl,DGet.t (k:=keyR N r) hpd6 (kbT kb hkd0 hrb),?_⟩
  rw[hla1]
  have hlad:la≠d:=fun z=>by obtain⟨k1,k2,_⟩:=hT;rw[z,k2] at hla2;cases hla2
  have hlab:la≠lb:=by
   rcases hla3 with rfl|⟨z1,k,z2⟩
   ·exact hl1b
   ·obtain⟨l',ys,e,_,_,h3,_⟩:=bk.there _ _ z2
    injection e with e
    subst e
    exact ϖn h3 hlb0
  refine⟨la,rfl,⟨_,SqL.of hla2⟩,?_⟩
  obtain⟨a1,ha1⟩:∃a:List En×List Int,a=(T1,beh):=⟨_,rfl⟩
  let Iv_3:Nat→L2.St→Hp→Prop:=(fun j σ H'=>∃(T':List En) (beh:List Int) (yb:List V) (x5 x11:Option V),σ=[some (.ref am),some (.ref as_),some (.int n),some (.int f),some (.ref d),x5,x6,some (.ref pd),some (.ref lf),some (.ref lb),some (.ref rb),x11] ∧
    KB d Hq H'∧H' lf=some (.lst yf)∧Paired (RmV N Hq) fr yf∧H' lb=some (.lst yb)∧Paired (RmV N Hq) beh yb∧H' la=some (.lst ((ϑO n S r).map qV))∧TrDP N K H' d T'∧TI M S n f T'∧T0 <+: T'∧(∀ m∈M,m.1∈ϖx T')∧(∀ r∈ϖx T',0≤r∧r < R)∧T'.length=T.length+beh.length∧(∀ r∈fr,r∈ϖx T')∧(∀ r∈beh,r∈ϖx T')∧(∀ r∈ϖx T',r∈beh∨r∈fr.drop i∨DoneT S n f T' r) ∧
    (∀ q∈(ϑO n S r).take j,∀t,S[q]?=some t→ϖK f t∈ϖx T')∧(T',beh)=((ϑO n S r).take j).foldl (vis S f r) a1)
  refine ϖ5 (xs:=(ϑO n S r).map qV) Iv_3
   ⟨T1,beh,yb,_,_,rfl,kb,elf,hyf,elb,hyb,hla2,hT,ti,tp,tm,tb,tl,tf,tbh,tc,fun q hq=>by simp at hq,ha1.symm⟩ (fun j σ H' _ z=>by obtain⟨_,_,_,_,_,_,_,_,_,_,_,z,_⟩:=z;exact SqL.of z) (fun b_ r_ hb_ hr_=>?_) ?_
  ·clear kb elf elb hT ti tp tm tb tl tf tbh tc hla2 hpd6 el1 gl1
   rintro j y σ H7 hy ⟨T2,beh,yb,x5'',x11'',rfl,kb,elf,_,elb,hyb,hla,hT,ti,tp,tm,tb,tl,tf,tbh,tc,td,tq2⟩
   rw[List.getElem?_map] at hy
   cases hqj:(ϑO n S r)[j]? with
   |none=>rw[hqj] at hy;cases hy
   |some pq=>
   rw[hqj] at hy
   injection hy with hy
   subst hy
   obtain⟨t,ht,htn⟩:=mem_placesOf.mp (List.mem_of_getElem? hqj)
   obtain⟨vt,hvt,b,c1,c2,xx,yy,rfl,hb,hc1,hc2⟩:=ϖM hs2 ht
   obtain⟨ro,hro,hrt⟩:=ϵA hf hc1 hc2
   have hrq:=gq0 _ _ hrt
   have hr7:=kbT kb hkd0 hrq
   have hb7r:=kbT kb hkd0 hrb
   have g7:=kb.same gq0 hd
   have hb7:=(Same.grow g7).seqT hb
   obtain⟨kvs,hkd,hp⟩:=id hT
   have hkl:kvs.length≤999:=by have:=cap T2 ti tb;rw[← hp.length];omega
   have hbl:beh.length≤999:=by have:=cap T2 ti tb;omega
   refine⟨_,rfl,_,rfl,_,_,_,_,rfl,rfl,g7.seq hs1,ϖQ hvt,_,rfl,_,_,_,_,rfl,rfl,hb7,hro,?_⟩
   refine⟨_,rfl,_,rfl,d,_,rfl,DGet.t (k:=keyR N (ϖK f t)) hkd hr7,_,rfl,?_⟩
   have tdone:∀{T':List En},(∀ x∈ϖx T2,x∈ϖx T')→ϖK f t∈ϖx T'→∀q∈(ϑO n S r).take (j+1),∀t,S[q]?=some t→ϖK f t∈ϖx T':=fun up hin q' hq' t' ht'=>by
    rw[ϖz hqj] at hq'
    rcases List.mem_append.mp hq' with h|h
    ·exact up _ (td q' h t' ht')
    ·rw[List.mem_singleton.mp h,ht] at ht'
     injection ht' with ht'
     rw[← ht'];exact hin
   cases hv:valV kvs (keyR N (ϖK f t)) with
   |some v=>
    refine iteF ?_
    have hin:ϖK f t∈ϖx T2:=Classical.byContradiction fun z=>by rw[(ϕW hp).mpr z] at hv;cases hv
    exact⟨T2,beh,yb,_,_,rfl,kb,elf,hyf,elb,hyb,hla,hT,ti,tp,tm,tb,tl,tf,tbh,tc,tdone (fun _ h=>h) hin,by rw[ϖz hqj,List.foldl_append,← tq2];exact(ϛA ht hin).symm⟩
   |none=>
    have hnot:=(ϕW hp).mp hv
    refine iteT ?_
    obtain⟨i0,e0,te,hi0,hk0,hval,hte⟩:=ϱW hp (tf r (List.mem_of_getElem? hri))
    refine⟨_,rfl,_,rfl,d,.ref te,rfl,hval▸DGet.t (k:=keyR N r) hkd hb7r,_,_,_,_,rfl,rfl,hte,rfl,_,rfl,(by show 2≤sizeLine;decide),fun p hp2=>?_⟩
    have g8:=ϖe hp2 (.tup [V.int (e0.2.1:Int),qV pq])
    have e8:=ϖd (H:=H7) (a:=p) (o:=.tup [V.int (e0.2.1:Int),qV pq])
    have kb:=kb.then g8
    have elf:=g8 _ _ elf
    have elb:=g8 _ _ elb
    have hla:=g8 _ _ hla
    have hkd:=g8 _ _ hkd
    have hp:=ϖb (fun _ _=>EnVP.gt (GT.of g8)) hp
    generalize upd H7 p (.tup [V.int (e0.2.1:Int),qV pq])=H8 at g8 e8 kb elf elb hla hkd hp⊢
    refine⟨_,rfl,_,rfl,d,_,rfl,DPut.t (k:=keyR N (ϖK f t)) hkd (g8 _ _ hr7) (szl' (by omega)),?_⟩
    have hT9:=TrDP.put (e:=(ϖK f t,e0.2.1,some pq)) hkd hp hnot e8
    have kb:=kb.here (o:=.dT (putK kvs (keyR N (ϖK f t)) (.ref p)))
    have elf:upd H8 d (.dT (putK kvs (keyR N (ϖK f t)) (.ref p))) lf=_:=(ϖq hfd).trans elf
    have elb:upd H8 d (.dT (putK kvs (keyR N (ϖK f t)) (.ref p))) lb=_:=(ϖq hbd).trans elb
    have hla:upd H8 d (.dT (putK kvs (keyR N (ϖK f t)) (.ref p))) la=_:=(ϖq hlad).trans hla
    generalize upd H8 d (.dT (putK kvs (keyR N (ϖK f t)) (.ref p)))=H9 at hT9 kb elf elb hla⊢
    refine⟨_,rfl,.inl ⟨rfl,_,SqL.of elb⟩,_,rfl,lb,_,_,rfl,rfl,elb,szl' (by rw[← hyb.length];omega),?_⟩
    have up:∀x∈ϖx T2,x∈ϖx (T2++[(ϖK f t,e0.2.1,some pq)]):=fun x hx=>by rw[ϕm];exact List.mem_append_left _ hx
    have hin:ϖK f t∈ϖx (T2++[(ϖK f t,e0.2.1,some pq)]):=by rw[ϕm];exact List.mem_append_right _ (by simp)
    refine⟨T2++[(ϖK f t,e0.2.1,some pq)],beh++[ϖK f t],yb++[.ref ro],_,_,rfl,kb.new hlb0,(ϖq hbf).trans elf,hyf,ϖd,ϖt hyb (.cons ⟨ro,rfl,hrq⟩ .nil),(ϖq hlab).trans hla,TrDP.gt (ϱN elb _) (ϖq hbd.symm) hT9,
     ti.snoc hnot (.inr ⟨pq,t,rfl,ht,rfl,i0,e0,(List.getElem?_eq_some_iff.mp hi0).1,hi0,by rw[hk0,htn],rfl⟩),tp.trans (List.prefix_append _ _),fun m hm=>up _ (tm m hm),fun x hx=>?_,by rw[List.length_append,List.length_append,List.length_singleton,List.length_singleton];omega,fun x hx=>up _ (tf x hx),fun x hx=>?_,fun x hx=>?_,tdone up hin,by rw[ϖz hqj,List.foldl_append,← tq2];exact(ϛp ht hnot (ϲv ti.nd hi0 hk0)).symm⟩
    ·rw[ϕm] at hx
     rcases List.mem_append.mp hx with hx|hx
     ·exact tb x hx
     ·rw[List.mem_singleton.mp hx];exact bs t (List.mem_of_getElem? ht)
    ·rcases List.mem_append.mp hx with hx|hx
     ·exact up _ (tbh x hx)
     ·rw[List.mem_singleton.mp hx];exact hin
    ·rw[ϕm] at hx
     rcases List.mem_append.mp hx with hx|hx
     ·rcases tc x hx with z|z|z
      ·exact .inl (List.mem_append_left _ z)
      ·exact .inr (.inl z)
      ·exact .inr (.inr z.snoc)
     ·exact .inl (List.mem_append_right _ hx)
  ·rintro σ H7 ⟨T2,beh,yb,x5'',x11'',rfl,kb,elf,_,elb,hyb,hla,hT,ti,tp,tm,tb,tl,tf,tbh,tc,td,tq2⟩
   rw[List.length_map,List.take_length] at td tq2
   rw[ha1] at tq2
   refine⟨T2,beh,yb,_,_,_,rfl,kb,elf,hyf,elb,hyb,hT,ti,tp,tm,tb,tl,tf,tbh,fun x hx=>?_,by rw[ϖz hri,List.foldl_append,← tq1];exact tq2⟩
   rcases tc x hx with z|z|z
   ·exact .inl z
   ·have e:fr.drop i=r::fr.drop (i+1):=by
     obtain⟨h1,h2⟩:=List.getElem?_eq_some_iff.mp hri
     rw[List.drop_eq_getElem_cons h1,h2]
    rw[e] at z
    rcases List.mem_cons.mp z with z|z
    ·refine .inr (.inr fun t ht hr=>?_)
     obtain⟨pq,hpq⟩:=List.getElem?_of_mem ht
     exact td pq (mem_placesOf.mpr ⟨t,hpq,by rw[hr,z]⟩) t hpq
    ·exact .inr (.inl z)
   ·exact .inr (.inr z)
 ·rintro σ H5 ⟨T1,beh,yb,x5',x10',x11',rfl,kb,elf,_,elb,hyb,hT,ti,tp,tm,tb,tl,tf,tbh,tc,tq1⟩
  rw[← hyf.length,List.drop_length] at tc
  rw[← hyf.length,List.take_length] at tq1
  have hc:=cap T1 ti tb
  refine⟨_,rfl,_,?_,lb,beh,yb,T1,_,_,_,_,rfl,rfl,kb,elb,hyb,hT,ti,tp,tm,tb,tbh,fun x hx=>?_,fun Z hz=>tr Z (.more hfr (by rw[lay,← tq1];exact hz))⟩
  ·omega
  ·rcases tc x hx with z|z|z
   ·exact .inl z
   ·cases z
   ·exact .inr z
theorem ϰk:FnScope ["scribe"] ["scribe"] (ϖj ϖT):=⟨rfl,rfl,rfl,by decide +kernel,rfl,by decide +kernel,by decide +kernel⟩
theorem ϰh (B:Bi mg) {ϖc ϖg:Addr} (XB:Xb K mg ϖc ϖg) (ϑA:Cal P w K mg base "traces_from" ["marks","steps","near","far"] 2 (ϰ0 K)) {f:Addr}{fd:FuncData} (F:Fun K "traces_from_begins" "traces_from_begins" ϖT f fd):FnOk P w K mg base CX0 3 f fd ["scribe"] (ϡR K):=by
 refine F.ok ϰk (fun vs H Q E h=>?_) (fun cdv A outer s H vs Q E hr h=>?_)
 ·obtain⟨N,v,s,pb,ps,pe,rfl,_⟩:=h;rfl
 obtain⟨N,v,s,pb,ps,pe,rfl,hV,ok,q⟩:=h
 refine⟨_,(ϖk (ϖF (ϖE ϑA hr (by decide:2≤2) (by rfl) (ϖa (hs:=ϖA) (ϖo (kIx (K:=K) rIxT ϖl) (pv 0) (ϖm (by rfl) B.BEGINS) (by intro _ _;rfl)) (ϖa (hs:=ϖA) (ϖo (kIx (K:=K) rIxT ϖl) (pv 0) (ϖm (by rfl) B.STEPS) (by intro _ _;rfl)) (ϖa (ϖm (by rfl) B.OUT_OF) (ϖa (ϖm (by rfl) B.INTO) ϖh))))))),?_⟩
 obtain⟨a,zz,xb,xs,xe,rfl,h1,h2,h3,h4,h5,h6,h7⟩:=hV
 exact⟨_,rfl,_,_,_,_,rfl,rfl,h1,rfl,_,rfl,_,_,_,_,rfl,rfl,h1,rfl,N,pb,s.begins,ps,s.steps,0,3,s.rooms,rfl,⟨xb,h2,h5⟩,⟨xs,h3,h6⟩,ok.lb,ok.ls,.inl rfl,.inr rfl,ok.lr,ok.mb,ok.side (.inr rfl),q⟩
theorem ϱe:FnScope ["scribe"] ["scribe"] (ϖj ϑf):=⟨rfl,rfl,rfl,by decide +kernel,rfl,by decide +kernel,by decide +kernel⟩
theorem ϰ4 (B:Bi mg) {ϖc ϖg:Addr} (XB:Xb K mg ϖc ϖg) (ϑA:Cal P w K mg base "traces_from" ["marks","steps","near","far"] 2 (ϰ0 K)) {f:Addr}{fd:FuncData} (F:Fun K "traces_to_ends" "traces_to_ends" ϑf f fd):FnOk P w K mg base CX0 3 f fd ["scribe"] (ϟg K):=by
 refine F.ok ϱe (fun vs H Q E h=>?_) (fun cdv A outer s H vs Q E hr h=>?_)
 ·obtain⟨N,v,s,pb,ps,pe,rfl,_⟩:=h;rfl
 obtain⟨N,v,s,pb,ps,pe,rfl,hV,ok,q⟩:=h
 refine⟨_,(ϖk (ϖF (ϖE ϑA hr (by decide:2≤2) (by rfl) (ϖa (hs:=ϖA) (ϖo (kIx (K:=K) rIxT ϖl) (pv 0) (ϖm (by rfl) B.ENDS) (by intro _ _;rfl)) (ϖa (hs:=ϖA) (ϖo (kIx (K:=K) rIxT ϖl) (pv 0) (ϖm (by rfl) B.STEPS) (by intro _ _;rfl)) (ϖa (ϖm (by rfl) B.INTO) (ϖa (ϖm (by rfl) B.OUT_OF) ϖh))))))),?_⟩
 obtain⟨a,zz,xb,xs,xe,rfl,h1,h2,h3,h4,h5,h6,h7⟩:=hV
 exact⟨_,rfl,_,_,_,_,rfl,rfl,h1,rfl,_,rfl,_,_,_,_,rfl,rfl,h1,rfl,N,pe,s.ends,ps,s.steps,3,0,s.rooms,rfl,⟨xe,h4,h7⟩,⟨xs,h3,h6⟩,ok.le,ok.ls,.inr rfl,.inl rfl,ok.lr,ok.me,ok.side (.inl rfl),q⟩
theorem sc_trail_of:FnScope ["room","traces","steps","near","trail","place"] ["room","traces","steps","near"] (ϖj ϕA):=⟨rfl,rfl,rfl,by decide +kernel,rfl,by decide +kernel,by decide +kernel⟩
theorem ϲH (B:Bi mg) {ϖc ϖg:Addr} (XB:Xb K mg ϖc ϖg)  {f:Addr}{fd:FuncData} (F:Fun K "trail_of" "trail_of" ϕA f fd):FnOk P w K mg base CX0 1 f fd ["room","traces","steps","near"] (ϟn K):=by
 refine F.ok sc_trail_of (fun vs H Q E h=>?_) (fun cdv A outer s H vs Q E hr h=>?_)
 ·obtain⟨N,rb,d,as_,n,f,R,T,M,S,r,rfl,_⟩:=h;rfl
 obtain⟨N,rb,d,as_,n,f,R,T,M,S,r,rfl,hn,⟨xs,hs1,hs2⟩,hT,tr,r9,hrb,hrT,q⟩:=h
 refine⟨_,(ϖf (ϖp (i:=4) sc_trail_of.nd rfl (Or.inl rfl) (ϑa ϖh))
   (ϖf (ϖp (i:=5) sc_trail_of.nd rfl (Or.inl rfl) (ϖo (kIx (K:=K) rIxT ϖl) (ϑ5 (ϑN hr) (pv 1) (pv 0) (by intro _ _;rfl)) ϖi (by intro _ _;rfl)))
   (ϖf (ϡc PassesOwn.never (ϖI ϟv (pv 5) ϕH (ϖY _)) (ϖf (ϑm (kPE (K:=K) (fun k=>tBM k _ _ _ _) (ϕv PySem.F.plainAttrs_list PySem.F.slot_list_append PySem.F.type_list_append ϑh (pv 4) (ϖa (pv 5) ϖh))))
   (ϖk (ϖp (i:=5) sc_trail_of.nd rfl (Or.inl rfl) (ϖo (kIx (K:=K) rIxT ϖl) (ϑ5 (ϑN hr) (pv 1) (ϖo (kIx (K:=K) rIxT ϖl) (ϖo (kIx (K:=K) rIxL ϖD) (pv 2) (pv 5) (by intro _ _;rfl)) (pv 3) (by intro _ _;rfl)) (by intro _ _;rfl)) ϖi (by intro _ _;rfl))))))
   (ϖk (ϖF (pv 4)))))),?_⟩
 have lT:=ϵ2 tr r9
 refine⟨szl (by simp),fun lt hlt=>?_⟩
 have gl:=ϖe hlt (.lst [])
 have el:=ϖd (H:=H) (a:=lt) (o:=.lst [])
 generalize upd H lt (.lst [])=H1 at gl el⊢
 obtain⟨i0,e0,t0,hi0,hr0,hg0,ht0⟩:=ϰQ (hT.mono gl) hrT (gl _ _ hrb)
 have hi0l:i0 < T.length:=(List.getElem?_eq_some_iff.mp hi0).1
 refine⟨_,rfl,_,rfl,d,_,rfl,hg0,_,_,_,_,rfl,rfl,ht0,rfl,?_⟩
 refine⟨fun mm σ H'=>∃i e,∃qs:List Nat,mm=i+1∧T[i]?=some e∧σ=[some (.ref rb),some (.ref d),some (.ref as_),some (.int n),some (.ref lt),some (optN e.2.2)]∧Same H H'∧H' lt=some (.lst (qs.map qV))∧(∀ q∈qs,q < S.length)∧qs.length+i+1≤T.length∧(∀ l,TrlR T S n e.1 l→TrlR T S n r (qs++l)),
  ⟨_,i0,e0,[],rfl,hi0,rfl,gl,el,fun _ z=>(nomatch z),by simp;omega,fun l z=>by rw[hr0] at z;exact z⟩,?_⟩
 rintro mm σ H2 ⟨i,e,qs,rfl,he,rfl,g2,el2,hq,lq,htr⟩
 rcases tr.ti.en i e he with⟨hno,_⟩|⟨qq,st,hqq,hs,_,j,e',hj,he',hnn,_⟩
 ·rw[hno]
  refine⟨_,rfl,rfl,_,rfl,ϟa (fun c=>absurd rfl c) (fun _=>?_)⟩
  exact⟨_,rfl,q lt H2 qs g2 hlt el2 hq (by omega) (by have:=htr [] (.done he hno);rw[List.append_nil] at this;exact this)⟩
 ·rw[hqq]
  refine⟨_,rfl,rfl,_,rfl,ϟa (fun _=>?_) (fun c=>nomatch c)⟩
  refine⟨_,fun σ' H' z=>z,?_⟩
  have hqs:qq < S.length:=(List.getElem?_eq_some_iff.mp hs).1
  refine⟨_,rfl,.inl ⟨rfl,_,SqL.of el2⟩,_,rfl,lt,_,qV qq,rfl,rfl,el2,szl' (by rw[List.length_map];omega),?_⟩
  have g3:=ϖv (o:=.lst (qs.map qV++[qV qq])) g2 hlt
  have el3:=ϖd (H:=H2) (a:=lt) (o:=.lst (qs.map qV++[qV qq]))
  generalize upd H2 lt (.lst (qs.map qV++[qV qq]))=H3 at g3 el3⊢
  obtain⟨vt,hvt,b,c1,c2,xx,yy,rfl,hb,hc1,hc2⟩:=ϖM hs2 hs
  obtain⟨ra,hra,hrt⟩:=ϵA (x:=xx) (y:=yy) hn (g3 _ _ hc1) (g3 _ _ hc2)
  have hkey:ϖK n st∈ϖx T:=by unfold ϖx;exact List.mem_map.mpr ⟨e',List.mem_of_getElem? he',hnn⟩
  obtain⟨i3,e3,t3,hi3,hk3,hg3,ht3⟩:=ϰQ (hT.mono g3) hkey hrt
  have ij:i3=j:=by
   have nd:=tr.ti.nd
   unfold ϖx at nd
   have h1:(T.map (·.1))[i3]?=some (ϖK n st):=by rw[List.getElem?_map,hi3];exact congrArg some hk3
   have h2:(T.map (·.1))[j]?=some (ϖK n st):=by rw[List.getElem?_map,he'];exact congrArg some hnn
   exact(List.getElem?_inj (List.getElem?_eq_some_iff.mp h1).1 nd).mp (h1.trans h2.symm)
  subst ij
  refine⟨_,rfl,_,rfl,_,rfl,_,_,_,_,rfl,rfl,g3.seq hs1,ϖQ hvt,_,rfl,_,_,_,_,rfl,rfl,(Same.grow g3).seqT hb,hra,d,_,rfl,hg3,_,_,_,_,rfl,rfl,ht3,rfl,?_⟩
  refine⟨_,?_,i3,e3,qs++[qq],rfl,hi3,rfl,g3,by rw[el3,List.map_append];rfl,fun x hx=>?_,by rw[List.length_append,List.length_singleton];omega,fun l hl=>?_⟩
  ·omega
  ·rcases List.mem_append.mp hx with hx|hx
   ·exact hq x hx
   ·rw[List.mem_singleton.mp hx];exact hqs
  ·rw[List.append_assoc]
   rw[hk3] at hl
   exact htr _ (.more he hqq hs hl)
theorem ϰA:FnScope ["scribe"] ["scribe"] (ϖj ϖ3):=⟨rfl,rfl,rfl,by decide +kernel,rfl,by decide +kernel,by decide +kernel⟩
theorem ϰz (B:Bi mg) {ϖc ϖg:Addr} (XB:Xb K mg ϖc ϖg)  {f:Addr}{fd:FuncData} (F:Fun K "refuse_many_rooms" "refuse_many_rooms" ϖ3 f fd):FnOk P w K mg base (CX1 P w) 1 f fd ["scribe"] (spMR K ϖg):=by
 refine Fun.ok1 F ϰA (fun vs H Q E h=>?_) (fun cdv A outer s H vs Q E hr h=>?_)
 ·obtain⟨v,s,pb,ps,pe,rfl,_⟩:=h;rfl
 obtain⟨v,s,pb,ps,pe,rfl,hV,q,hE⟩:=h
 refine⟨_,(ϖk (ϑx (ϖI ϱn (ϖo (kIx (K:=K) rIxT ϖl) (pv 0) (ϖm (by rfl) B.ROOMS) (by intro _ _;rfl)) (ϖm (by rfl) B.MOST_ROOMS_WITH_CHOICES) (ϖY _)) (ϖk (ϱv XB.own_TooMany (by rfl) (by rfl) ϱz ϕY)) ϖN)),?_⟩
 obtain⟨a,xb,xs,xe,rfl,h1,h2,h3,h4,h5,h6,h7⟩:=hV
 refine⟨_,rfl,_,_,_,_,rfl,rfl,h1,rfl,_,_,rfl,rfl,_,rfl,ϕx (fun c=>?_) (fun c=>?_)⟩
 ·exact⟨rfl,hE (by omega)⟩
 ·exact q (by omega)
theorem sc_two_of_each:FnScope ["keys","counts","places","place","key"] ["keys"] (ϖj ϑD):=⟨rfl,rfl,rfl,by decide +kernel,rfl,by decide +kernel,by decide +kernel⟩
theorem ϱ8 (B:Bi mg) {ϖc ϖg:Addr} (XB:Xb K mg ϖc ϖg)  {f:Addr}{fd:FuncData} (F:Fun K "two_of_each" "two_of_each" ϑD f fd):FnOk P w K mg base CX0 1 f fd ["keys"] (ϝf K):=by
 refine F.ok sc_two_of_each (fun vs H Q E h=>?_) (fun cdv A outer s H vs Q E hr h=>?_)
 ·obtain⟨p,xs,rfl,_⟩:=h;rfl
 obtain⟨p,xs,rfl,hL,h9,h⟩:=h
 refine⟨_,(ϖf (ϖp (i:=1) sc_two_of_each.nd rfl (Or.inl rfl) (pe_or ϰu ϕ0))
   (ϖf (ϖp (i:=2) sc_two_of_each.nd rfl (Or.inl rfl) (ϑa ϖh))
   (ϖf (ϑd PassesOwn.never (by rfl) (kPI (K:=K) (fun k=>iEnu k _) (ϵq (by rfl) B.enumerate (ϖa (pv 0) ϖh))) (kPG (K:=K) (fun k=>gTup k 2 _) (ϑr (n:=2) (by rfl) (ϖs (ϖr (i:=3) sc_two_of_each.nd rfl (Or.inl rfl)) (ϖs (ϖr (i:=4) sc_two_of_each.nd rfl (Or.inl rfl)) ϖ6)))) (ϖf (ϕU (ϑN hr) (pv 1) (pv 4) (ϖu ϖP (kPE (K:=K) (fun k=>tBM k _ _ _ _) (ϕv PySem.F.plainAttrs_dict PySem.F.slot_dict_get PySem.F.type_dict_get (ϲC hr) (pv 1) (ϖa (pv 4) (ϖa ϖi ϖh)))) ϖi) rfl)
   (ϖk (ϑx (ϖI op_le (ϑ5 (ϑN hr) (pv 1) (pv 4) (by intro _ _;rfl)) ϖi (ϖY _)) (ϖk (ϑm (kPE (K:=K) (fun k=>tBM k _ _ _ _) (ϕv PySem.F.plainAttrs_list PySem.F.slot_list_append PySem.F.type_list_append ϑh (pv 2) (ϖa (pv 3) ϖh))))) ϖN))))
   (ϖk (ϖF (pv 2)))))),?_⟩
 rcases h with⟨ks,hxs,q⟩|⟨ks,hk,q⟩
 ·have hkl:xs.length=ks.length:=by rw[hxs,List.length_map]
  refine .inl fun d hd=>?_
  have gd:=ϖe hd (.dK [])
  have ed:=ϖd (H:=H) (a:=d) (o:=.dK [])
  generalize upd H d (.dK [])=H1 at gd ed⊢
  refine⟨szl (by simp),fun lp hlp=>?_⟩
  have gp:=ϖe hlp (.lst [])
  have ep:=ϖd (H:=H1) (a:=lp) (o:=.lst [])
  have g1:=gd.trans gp
  have ed:=gp _ _ ed
  have hlp0:H lp=none:=gd.free hlp
  have hdl:lp≠d:=(ϖn (a:=d) (b:=lp) (by rw[← ed,ϖq (fun z=>by rw[z,ϖd] at ed;cases ed)]) hlp).symm
  generalize upd H1 lp (.lst [])=H2 at gp ep g1 ed⊢
  refine⟨_,rfl,p,rfl,⟨xs,g1.seq hL⟩,?_⟩
  let Iv_1:Nat→L2.St→Hp→Prop:=(fun i σ H'=>Same H H'∧i≤xs.length∧(∃ x y,σ=[some (.ref p),some (.ref d),some (.ref lp),x,y])∧(∃ kvs,H' d=some (.dK kvs)∧kvs.length≤i∧∀k,(valV kvs (Sum.inl k:Key)).getD (.int 0)=.int ((cnt (ks.take i) k:Nat):Int))∧H' lp=some (.lst (((List.range i).filter (twoB ks)).map qV)))
  refine ϕN (xs:=xs) Iv_1
   ⟨g1,Nat.zero_le _,⟨_,_,rfl⟩,⟨[],ed,Nat.le_refl _,fun k=>rfl⟩,ep⟩ (fun i σ H' _ z=>z.1.seq hL) (fun b_ r_ hb_ hr_=>?_) ?_
  ·rintro i x p0 σ H3 hx ⟨g3,hi,⟨x3,x4,rfl⟩,⟨kvs,ek,lk,hv⟩,en⟩ hp0
   have hil:i < xs.length:=(List.getElem?_eq_some_iff.mp hx).1
   rw[hxs,List.getElem?_map] at hx
   obtain⟨n,hn,rfl⟩:=Option.map_eq_some_iff.mp hx
   have gt0:=ϖe hp0 (.tup [V.int i,.int n])
   have et0:=ϖd (H:=H3) (a:=p0) (o:=.tup [V.int i,.int n])
   have g3:=g3.trans gt0
   have ek:=gt0 _ _ ek
   have en:=gt0 _ _ en
   generalize upd H3 p0 (.tup [V.int i,.int n])=H4 at gt0 et0 g3 ek en⊢
   refine⟨p0,_,rfl,SqT.of et0,rfl,_,_,rfl,_,_,rfl,rfl,?_⟩
   have hc:=hv n
   refine⟨_,rfl,.inr (.inr (.inl ⟨rfl,.inl ⟨kvs,ek⟩⟩)),_,rfl,d,.int n,.int 0,_,rfl,rfl,DGet.k (k:=Sum.inl n) ek,?_⟩
   rw[hc]
   have htb:twoB ks i=decide (cnt (ks.take i) n < 2):=by unfold twoB;rw[hn]
   have htk:ks.take (i+1)=ks.take i++[n]:=ϖz hn
   generalize hce:cnt (ks.take i) n=c at hc htb⊢
   refine⟨_,_,rfl,rfl,_,rfl,_,rfl,d,_,rfl,DPut.k (k:=Sum.inl n) ek (szl' (by omega)),?_⟩
   have hv2:valV (putK kvs (Sum.inl n:Key) (V.int ((c:Int)+1))) (Sum.inl n:Key)=some (V.int ((c:Int)+1)):=by rw[ϕR,if_pos rfl]
   have hl2:=ϑP kvs (Sum.inl n:Key) (V.int ((c:Int)+1))
   have hv3:∀k,(valV (putK kvs (Sum.inl n:Key) (V.int ((c:Int)+1))) (Sum.inl k:Key)).getD (.int 0)=.int ((cnt (ks.take (i+1)) k:Nat):Int):=fun k=>by
    rw[ϕR,htk,ϰv]
    by_cases e:k=n
    ·rw[if_pos (by rw[e]),if_pos e,e,hce];rfl
    ·rw[if_neg (fun z=>e (by injection z)),if_neg e];exact hv k
   have ek2:=ϖd (H:=H4) (a:=d) (o:=.dK (putK kvs (Sum.inl n:Key) (V.int ((c:Int)+1))))
   have en2:upd H4 d (.dK (putK kvs (Sum.inl n:Key) (V.int ((c:Int)+1)))) lp=some (.lst (((List.range i).filter (twoB ks)).map qV)):=(ϖq hdl).trans en
   have g5:=ϖv (o:=.dK (putK kvs (Sum.inl n:Key) (V.int ((c:Int)+1)))) g3 hd
   generalize upd H4 d (.dK (putK kvs (Sum.inl n:Key) (V.int ((c:Int)+1))))=H5 at ek2 en2 g5⊢
   have hfl:=List.length_filter_le (twoB ks) (List.range i)
   rw[List.length_range] at hfl
   refine⟨_,rfl,_,rfl,d,_,rfl,hv2▸DGet.k (k:=Sum.inl n) ek2,_,_,rfl,rfl,_,rfl,ϕx (fun h2=>?_) (fun h2=>⟨g5,hil,⟨_,_,rfl⟩,⟨_,ek2,by omega,hv3⟩,?_⟩)⟩
   ·refine⟨_,rfl,.inl ⟨rfl,_,SqL.of en2⟩,_,rfl,lp,_,qV i,rfl,rfl,en2,szl' (by rw[List.length_map];omega),?_⟩
    refine⟨ϖv g5 hlp0,hil,⟨_,_,rfl⟩,⟨_,(ϖq hdl.symm).trans ek2,by omega,hv3⟩,?_⟩
    rw[ϖd,List.range_succ,List.filter_append,List.filter_cons_of_pos (by rw[htb];exact decide_eq_true (by omega)),List.map_append];rfl
   ·rw[List.range_succ,List.filter_append,List.filter_cons_of_neg (by rw[htb,decide_eq_false (by omega)];exact Bool.false_ne_true),List.filter_nil,List.append_nil]
    exact en2
  rintro σ H3 ⟨g3,_,⟨x3,x4,rfl⟩,_,en⟩
  rw[hkl] at en
  exact⟨_,rfl,q lp H3 g3 hlp0 en⟩
 ·have hkl:xs.length=ks.length:=hk.length.symm
  refine .inr fun d hd=>?_
  have gd:=ϖe hd (.dT [])
  have ed:=ϖd (H:=H) (a:=d) (o:=.dT [])
  generalize upd H d (.dT [])=H1 at gd ed⊢
  refine⟨szl (by simp),fun lp hlp=>?_⟩
  have gp:=ϖe hlp (.lst [])
  have ep:=ϖd (H:=H1) (a:=lp) (o:=.lst [])
  have g1:=gd.trans gp
  have ed:=gp _ _ ed
  have hlp0:H lp=none:=gd.free hlp
  have hdl:lp≠d:=(ϖn (a:=d) (b:=lp) (by rw[← ed,ϖq (fun z=>by rw[z,ϖd] at ed;cases ed)]) hlp).symm
  generalize upd H1 lp (.lst [])=H2 at gp ep g1 ed⊢
  refine⟨_,rfl,p,rfl,⟨xs,g1.seq hL⟩,?_⟩
  let Iv_2:Nat→L2.St→Hp→Prop:=(fun i σ H'=>Same H H'∧i≤xs.length∧(∃ x y,σ=[some (.ref p),some (.ref d),some (.ref lp),x,y])∧(∃ kvs,H' d=some (.dT kvs)∧kvs.length≤i∧∀k,(valV kvs k).getD (.int 0)=.int ((cnt (ks.take i) k:Nat):Int))∧H' lp=some (.lst (((List.range i).filter (twoB ks)).map qV)))
  refine ϕN (xs:=xs) Iv_2
   ⟨g1,Nat.zero_le _,⟨_,_,rfl⟩,⟨[],ed,Nat.le_refl _,fun k=>rfl⟩,ep⟩ (fun i σ H' _ z=>z.1.seq hL) (fun b_ r_ hb_ hr_=>?_) ?_
  ·rintro i x p0 σ H3 hx ⟨g3,hi,⟨x3,x4,rfl⟩,⟨kvs,ek,lk,hv⟩,en⟩ hp0
   have hil:i < xs.length:=(List.getElem?_eq_some_iff.mp hx).1
   obtain⟨n,hn,b,rfl,hb⟩:=ϖw hk hx
   have gt0:=ϖe hp0 (.tup [V.int i,.ref b])
   have et0:=ϖd (H:=H3) (a:=p0) (o:=.tup [V.int i,.ref b])
   have g3:=g3.trans gt0
   have ek:=gt0 _ _ ek
   have en:=gt0 _ _ en
   generalize upd H3 p0 (.tup [V.int i,.ref b])=H4 at gt0 et0 g3 ek en⊢
   have hb4:=g3 _ _ hb
   refine⟨p0,_,rfl,SqT.of et0,rfl,_,_,rfl,_,_,rfl,rfl,?_⟩
   have hc:=hv n
   refine⟨_,rfl,.inr (.inr (.inl ⟨rfl,.inr ⟨kvs,ek⟩⟩)),_,rfl,d,.ref b,.int 0,_,rfl,rfl,DGet.t ek hb4,?_⟩
   rw[hc]
   have htb:twoB ks i=decide (cnt (ks.take i) n < 2):=by unfold twoB;rw[hn]
   have htk:ks.take (i+1)=ks.take i++[n]:=ϖz hn
   generalize hce:cnt (ks.take i) n=c at hc htb⊢
   refine⟨_,_,rfl,rfl,_,rfl,_,rfl,d,_,rfl,DPut.t ek hb4 (szl' (by omega)),?_⟩
   have hv2:valV (putK kvs n (V.int ((c:Int)+1))) n=some (V.int ((c:Int)+1)):=by rw[ϕR,if_pos rfl]
   have hl2:=ϑP kvs n (V.int ((c:Int)+1))
   have hv3:∀k,(valV (putK kvs n (V.int ((c:Int)+1))) k).getD (.int 0)=.int ((cnt (ks.take (i+1)) k:Nat):Int):=fun k=>by
    rw[ϕR,htk,ϰv]
    by_cases e:k=n
    ·rw[if_pos (by rw[e]),if_pos e,e,hce];rfl
    ·rw[if_neg (fun z=>e (z)),if_neg e];exact hv k
   have ek2:=ϖd (H:=H4) (a:=d) (o:=.dT (putK kvs n (V.int ((c:Int)+1))))
   have en2:upd H4 d (.dT (putK kvs n (V.int ((c:Int)+1)))) lp=some (.lst (((List.range i).filter (twoB ks)).map qV)):=(ϖq hdl).trans en
   have g5:=ϖv (o:=.dT (putK kvs n (V.int ((c:Int)+1)))) g3 hd
   have hb5:=g5 _ _ hb
   generalize upd H4 d (.dT (putK kvs n (V.int ((c:Int)+1))))=H5 at ek2 en2 g5 hb5⊢
   have hfl:=List.length_filter_le (twoB ks) (List.range i)
   rw[List.length_range] at hfl
   refine⟨_,rfl,_,rfl,d,_,rfl,hv2▸DGet.t ek2 hb5,_,_,rfl,rfl,_,rfl,ϕx (fun h2=>?_) (fun h2=>⟨g5,hil,⟨_,_,rfl⟩,⟨_,ek2,by omega,hv3⟩,?_⟩)⟩
   ·refine⟨_,rfl,.inl ⟨rfl,_,SqL.of en2⟩,_,rfl,lp,_,qV i,rfl,rfl,en2,szl' (by rw[List.length_map];omega),?_⟩
    refine⟨ϖv g5 hlp0,hil,⟨_,_,rfl⟩,⟨_,(ϖq hdl.symm).trans ek2,by omega,hv3⟩,?_⟩
    rw[ϖd,List.range_succ,List.filter_append,List.filter_cons_of_pos (by rw[htb];exact decide_eq_true (by omega)),List.map_append];rfl
   ·rw[List.range_succ,List.filter_append,List.filter_cons_of_neg (by rw[htb,decide_eq_false (by omega)];exact Bool.false_ne_true),List.filter_nil,List.append_nil]
    exact en2
  rintro σ H3 ⟨g3,_,⟨x3,x4,rfl⟩,_,en⟩
  rw[hkl] at en
  exact⟨_,rfl,q lp H3 g3 hlp0 en⟩
theorem sc_doubled_marks:FnScope ["marks","places","doubled","one","first","other","second"] ["marks"] (ϖj ϑo):=⟨rfl,rfl,rfl,by decide +kernel,rfl,by decide +kernel,by decide +kernel⟩
theorem ϱr (B:Bi mg) {ϖc ϖg:Addr} (XB:Xb K mg ϖc ϖg) (ϑC:Cal P w K mg base "two_of_each" ["keys"] 1 (ϝf K)) {f:Addr}{fd:FuncData} (F:Fun K "doubled_marks" "doubled_marks" ϑo f fd):FnOk P w K mg base CX0 2 f fd ["marks"] (spDM K):=by
 refine F.ok sc_doubled_marks (fun vs H Q E h=>?_) (fun cdv A outer s H vs Q E hr h=>?_)
 ·obtain⟨N,am,M,rfl,_⟩:=h;rfl
 obtain⟨N,am,M,rfl,hN,h8,⟨xm,hm1,hm2⟩,lm,mb,q⟩:=h
 refine⟨_,(ϖf (ϖp (i:=1) sc_doubled_marks.nd rfl (Or.inl rfl) (ϖE ϑC hr (by decide:1≤1) (by rfl) (ϖa (ϕT rfl (ϕs (N':=["mark"]) (js:=[none]) rfl (by decide +kernel) rfl (by decide +kernel) rfl rfl) (kPI (K:=K) (fun k=>ϑ3 k _) (ϖZ (pv 0))) (fun _ _ _ _ _=>(ϖr (i:=0) (show List.Nodup (["mark"]:List Str) by decide +kernel) rfl (Or.inl rfl))) (fun _ _ _ _ _=>ϕr) (fun _ _ _ _ _=>(ϖo (kIx (K:=K) rIxT ϖl) (pv 0) ϖi (by intro _ _;rfl)))) ϖh)))
   (ϖf (ϖp (i:=2) sc_doubled_marks.nd rfl (Or.inl rfl) (ϑa ϖh))
   (ϖf (ϑd PassesOwn.never (by rfl) (kPI (K:=K) (fun k=>ϑ3 k _) (ϖZ (pv 1))) (ϖr (i:=3) sc_doubled_marks.nd rfl (Or.inl rfl)) (ϖf (ϖp (i:=4) sc_doubled_marks.nd rfl (Or.inl rfl) (ϖo (kIx (K:=K) rIxL ϖD) (pv 0) (pv 3) (by intro _ _;rfl)))
   (ϖk (ϑd PassesOwn.never (by rfl) (kPI (K:=K) (fun k=>ϑ3 k _) (ϖZ (pv 1))) (ϖr (i:=5) sc_doubled_marks.nd rfl (Or.inl rfl)) (ϖf (ϖp (i:=6) sc_doubled_marks.nd rfl (Or.inl rfl) (ϖo (kIx (K:=K) rIxL ϖD) (pv 0) (pv 5) (by intro _ _;rfl)))
   (ϖk (ϑm (kPE (K:=K) (fun k=>tBM k _ _ _ _) (ϕv PySem.F.plainAttrs_list PySem.F.slot_list_append PySem.F.type_list_append ϑh (pv 2) (ϖa (hs:=ϱc) (ϖG (ϖa (hs:=ϱc) (ϖG (ϖa (hs:=ϖA) (ϖo (kIx (K:=K) rIxT ϖl) (pv 4) ϖi (by intro _ _;rfl)) (ϖa (hs:=ϖA) (ϖo (kIx (K:=K) rIxT ϖl) (pv 6) ϖi (by intro _ _;rfl)) ϖh))) (ϖa (hs:=ϱc) (ϖG (ϖa (pv 3) (ϖa (pv 5) ϖh))) (ϖa (hs:=ϱc) (ϖG (ϖa (hs:=ϖA) (ϖo (kIx (K:=K) rIxT ϖl) (pv 4) ϖi (by intro _ _;rfl)) (ϖa (hs:=ϖA) (ϖo (kIx (K:=K) rIxT ϖl) (pv 6) ϖi (by intro _ _;rfl)) ϖh))) ϖh)))) ϖh))))))))))
   (ϖk (ϖF (pv 2)))))),?_⟩
 have hmx:M.length=xm.length:=hm2.length
 refine⟨_,rfl,am,rfl,⟨xm,hm1⟩,?_⟩
 refine ϑt (xs:=xm) (fun i ys τ H'=>H=H'∧(∃ x,τ=[x])∧i≤xm.length∧ys=((M.take i).map (·.1)).map V.int) ⟨rfl,⟨_,rfl⟩,Nat.zero_le _,rfl⟩ (fun i ys τ H' z=>z.1▸hm1) ?_ ?_
 ·rintro i x ys τ _ hx ⟨rfl,⟨x0,rfl⟩,hi,hy⟩
  obtain⟨m,hm,b,rfl,hb⟩:=ϖw hm2 hx
  have hil:i < xm.length:=(List.getElem?_eq_some_iff.mp hx).1
  refine⟨_,rfl,_,_,_,_,rfl,rfl,hb,rfl,szl' (by rw[hy,List.length_map,List.length_map,List.length_take];omega),rfl,⟨_,rfl⟩,hil,?_⟩
  rw[hy,ϖz hm,List.map_append,List.map_append];rfl
 rintro ks τ _ ⟨rfl,_,_,hy⟩ lk hlk
 rw[← hmx,List.take_length] at hy
 have gk:=ϖe hlk (.lst ks)
 have ek:=ϖd (H:=H) (a:=lk) (o:=.lst ks)
 generalize upd H lk (.lst ks)=H1 at gk ek⊢
 refine⟨lk,ks,rfl,SqL.of ek,by rw[hy,List.length_map,List.length_map];omega,.inl ⟨M.map (·.1),hy,fun lp H2 g2 hlp elp=>?_⟩⟩
 have g02:=gk.trans g2
 obtain⟨ns,hns⟩:∃ns,ns=twM M:=⟨_,rfl⟩
 have elp:H2 lp=some (.lst (ns.map qV)):=by rw[hns];exact elp
 have hnm:∀q∈ns,q < M.length:=fun q hq=>ϕ9 (by rw[← hns];exact hq)
 have lns:ns.length≤16:=by rw[hns];exact ϟB h8 mb
 refine⟨szl (by simp),fun ld hld=>?_⟩
 have hpd:lp≠ld:=ϖn elp hld
 have gd:=ϖe hld (.lst [])
 have ed:=ϖd (H:=H2) (a:=ld) (o:=.lst [])
 have hld0:H ld=none:=g02.free hld
 have elp3:=gd _ _ elp
 generalize upd H2 ld (.lst [])=H3 at gd ed elp3⊢
 refine⟨_,rfl,lp,rfl,⟨_,SqL.of elp3⟩,?_⟩
 let Iv_1:Nat→L2.St→Hp→Prop:=(fun i σ H'=>Same H2 H'∧i≤ns.length∧(∃ x3 x4 x5 x6,σ=[some (.ref am),some (.ref lp),some (.ref ld),x3,x4,x5,x6])∧∃(zs:List V),H' ld=some (.lst zs)∧Paired (DmV N K H') ((ns.take i).flatMap fun o=>ns.map (dmk N M o)) zs∧zs.length≤16*i)
 refine ϖ5 (xs:=ns.map qV) Iv_1
  ⟨gd,Nat.zero_le _,⟨_,_,_,_,rfl⟩,[],ed,.nil,Nat.zero_le _⟩ (fun i σ H' _ z=>SqL.of (z.1 _ _ elp)) (fun b_ r_ hb_ hr_=>?_) ?_
 ·rintro i x σ H4 hx ⟨g4,hi,⟨x3,x4,x5,x6,rfl⟩,zs,ez,hD,lD⟩
  rw[List.getElem?_map] at hx
  obtain⟨o,ho,rfl⟩:=Option.map_eq_some_iff.mp hx
  have hil:i < ns.length:=(List.getElem?_eq_some_iff.mp ho).1
  have hoM:=hnm o (List.mem_of_getElem? ho)
  obtain⟨v1,hv1,b1,rfl,hb1⟩:=ϖM hm2 (List.getElem?_eq_getElem hoM)
  have m1:=mb _ (List.getElem_mem hoM)
  have g04:=g02.trans g4
  refine⟨_,rfl,_,rfl,_,_,_,_,rfl,rfl,g04.seq hm1,ϖQ hv1,?_⟩
  refine⟨_,rfl,lp,rfl,⟨_,SqL.of (g4 _ _ elp)⟩,?_⟩
  let Iv_2:Nat→L2.St→Hp→Prop:=(fun j σ H'=>Same H2 H'∧j≤ns.length∧(∃ x5 x6,σ=[some (.ref am),some (.ref lp),some (.ref ld),some (qV o),some (.ref b1),x5,x6])∧∃(zs:List V),H' ld=some (.lst zs)∧Paired (DmV N K H') (((ns.take i).flatMap fun o=>ns.map (dmk N M o))++(ns.take j).map (dmk N M o)) zs∧zs.length≤16*i+j)
  refine ϖ5 (xs:=ns.map qV) Iv_2
   ⟨g4,Nat.zero_le _,⟨_,_,rfl⟩,zs,ez,by rw[List.take_zero,List.map_nil,List.append_nil];exact hD,lD⟩ (fun j σ H' _ z=>SqL.of (z.1 _ _ elp)) (fun b_ r_ hb_ hr_=>?_) ?_
  ·clear ez hD lD zs g4 g04
   rintro j y σ H4 hy ⟨g4,hj,⟨x5,x6,rfl⟩,zs,ez,hD,lD⟩
   rw[List.getElem?_map] at hy
   obtain⟨o2,ho2,rfl⟩:=Option.map_eq_some_iff.mp hy
   have hjl:j < ns.length:=(List.getElem?_eq_some_iff.mp ho2).1
   have hoM2:=hnm o2 (List.mem_of_getElem? ho2)
   obtain⟨v2,hv2,b2,rfl,hb2⟩:=ϖM hm2 (List.getElem?_eq_getElem hoM2)
   have m2:=mb _ (List.getElem_mem hoM2)
   obtain⟨ma,hma⟩:∃ma,ma=M[o]:=⟨_,rfl⟩
   obtain⟨mc,hmc⟩:∃mc,mc=M[o2]:=⟨_,rfl⟩
   rw[← hma] at hb1 m1
   rw[← hmc] at hb2 m2
   have hdk:dmk N M o o2=(enc N ma.1 mc.1,(o,o2),(ma.2,mc.2)):=by unfold dmk;rw[hma,hmc,ϲ9,ϲ9]
   have g04:=g02.trans g4
   have c1:=Same.seqT g04 hb1
   have c2:=Same.seqT g04 hb2
   refine⟨_,rfl,_,rfl,_,_,_,_,rfl,rfl,g04.seq hm1,ϖQ hv2,?_⟩
   refine⟨_,rfl,.inl ⟨rfl,_,SqL.of ez⟩,_,rfl,_,_,_,_,rfl,rfl,c1,rfl,_,rfl,_,_,_,_,rfl,rfl,c2,rfl,(by show 2≤sizeLine;decide),fun t1 ht1=>?_⟩
   have k1:=ϖe ht1 (.tup [V.int ma.1,V.int mc.1])
   have f1:=ϖd (H:=H4) (a:=t1) (o:=.tup [V.int ma.1,V.int mc.1])
   dsimp only at ht1⊢
   generalize upd H4 t1 (.tup [V.int ma.1,V.int mc.1])=J1 at k1 f1⊢
   refine⟨_,rfl,_,rfl,(by show 2≤sizeLine;decide),fun t2 ht2=>?_⟩
   have k2:=ϖe ht2 (.tup [qV o,qV o2])
   have f2:=ϖd (H:=J1) (a:=t2) (o:=.tup [qV o,qV o2])
   have f1:=k2 _ _ f1
   dsimp only at ht2⊢
   generalize upd J1 t2 (.tup [qV o,qV o2])=J2 at k2 f1 f2⊢
   have kk:=k1.trans k2
   refine⟨_,rfl,_,_,_,_,rfl,rfl,Same.seqT kk c1,rfl,_,rfl,_,_,_,_,rfl,rfl,Same.seqT kk c2,rfl,(by show 2≤sizeLine;decide),fun t3 ht3=>?_⟩
   have k3:=ϖe ht3 (.tup [V.str ma.2,V.str mc.2])
   have f3:=ϖd (H:=J2) (a:=t3) (o:=.tup [V.str ma.2,V.str mc.2])
   have f1:=k3 _ _ f1
   have f2:=k3 _ _ f2
   dsimp only at ht3⊢
   generalize upd J2 t3 (.tup [V.str ma.2,V.str mc.2])=J3 at k3 f1 f2 f3⊢
   refine⟨(by show 3≤sizeLine;decide),fun t4 ht4=>?_⟩
   have k4:=ϖe ht4 (.tup [V.ref t1,V.ref t2,V.ref t3])
   have f4:=ϖd (H:=J3) (a:=t4) (o:=.tup [V.ref t1,V.ref t2,V.ref t3])
   have f1:=k4 _ _ f1
   have f2:=k4 _ _ f2
   have f3:=k4 _ _ f3
   have kq:=(kk.trans k3).trans k4
   have ez:=kq _ _ ez
   have g4:=g4.trans kq
   have hD:=ϖb (fun _ _=>DmV.gt (GT.of kq) (TS.of kq)) hD
   generalize upd J3 t4 (.tup [V.ref t1,V.ref t2,V.ref t3])=J4 at k4 f1 f2 f3 f4 kq ez g4 hD⊢
   refine⟨ld,zs,.ref t4,rfl,rfl,ez,szl' (by omega),?_⟩
   have gt:=ϱN ez (.lst (zs++[V.ref t4]))
   have ts:=ϝN ez (fun _ z=>nomatch z) (.lst (zs++[V.ref t4]))
   refine⟨ϖv g4 hld,hjl,⟨_,_,rfl⟩,zs++[.ref t4],ϖd,?_,by rw[List.length_append,List.length_singleton];omega⟩
   ·rw[map_take ho2,← List.append_assoc,hdk]
    refine ϖt (ϖb (fun _ _=>DmV.gt gt ts) hD) (.cons ⟨t4,t1,t2,t3,rfl,gt.seqT (SqT.of f4),?_,gt.seqT (SqT.of f2),gt.seqT (SqT.of f3)⟩ .nil)
    show _=some (tupR N (enc N ma.1 mc.1))
    rw[ϲ3 m2.1 m2.2.1]
    exact ts _ _ f1
  rintro σ H5 ⟨g5,_,⟨x5',x6',rfl⟩,zs,ez,hD,lD⟩
  rw[List.length_map] at lD hD
  rw[List.take_length] at hD
  exact⟨g5,hil,⟨_,_,_,_,rfl⟩,zs,ez,by rw[ϲN ho];exact hD,by omega⟩
 rintro σ H5 ⟨g5,_,⟨x3,x4,x5,x6,rfl⟩,zs,ez,hD,lD⟩
 rw[List.length_map,List.take_length,hns] at hD
 exact⟨_,rfl,q ld H5 (g02.trans g5) hld0 ⟨zs,ez,hD⟩⟩
theorem sc_places_by_sign:FnScope ["steps","found","place"] ["steps"] (ϖj ϑe):=⟨rfl,rfl,rfl,by decide +kernel,rfl,by decide +kernel,by decide +kernel⟩
theorem ϱd (B:Bi mg) {ϖc ϖg:Addr} (XB:Xb K mg ϖc ϖg) (ϑC:Cal P w K mg base "two_of_each" ["keys"] 1 (ϝf K)) {f:Addr}{fd:FuncData} (F:Fun K "places_by_sign" "places_by_sign" ϑe f fd):FnOk P w K mg base CX0 2 f fd ["steps"] (spPS K):=by
 refine F.ok sc_places_by_sign (fun vs H Q E h=>?_) (fun cdv A outer s H vs Q E hr h=>?_)
 ·obtain⟨as_,S,rfl,_⟩:=h;rfl
 obtain⟨as_,S,rfl,⟨xs,hs1,hs2⟩,ls,q⟩:=h
 refine⟨_,(ϖf (ϖp (i:=1) sc_places_by_sign.nd rfl (Or.inl rfl) ϰu)
   (ϖf (ϑd PassesOwn.never (by rfl) (kPI (K:=K) (fun k=>ϑ3 k _) (ϖZ (ϖE ϑC hr (by decide:1≤1) (by rfl) (ϖa (ϕT rfl (ϕs (N':=["step"]) (js:=[none]) rfl (by decide +kernel) rfl (by decide +kernel) rfl rfl) (kPI (K:=K) (fun k=>ϑ3 k _) (ϖZ (pv 0))) (fun _ _ _ _ _=>(ϖr (i:=0) (show List.Nodup (["step"]:List Str) by decide +kernel) rfl (Or.inl rfl))) (fun _ _ _ _ _=>ϕr) (fun _ _ _ _ _=>(ϖG (ϖa (hs:=ϖA) (ϖo (kIx (K:=K) rIxT ϖl) (pv 0) (ϖm (by rfl) B.OUT_OF) (by intro _ _;rfl)) (ϖa (hs:=ϖA) (ϖo (kIx (K:=K) rIxT ϖl) (pv 0) ϖi (by intro _ _;rfl)) (ϖa (hs:=ϖA) (ϖo (kIx (K:=K) rIxT ϖl) (pv 0) (ϖm (by rfl) B.INTO) (by intro _ _;rfl)) ϖh)))))) ϖh)))) (ϖr (i:=2) sc_places_by_sign.nd rfl (Or.inl rfl)) (ϖk (ϑm (kPE (K:=K) (fun k=>tBM k _ _ _ _) (ϕv PySem.F.plainAttrs_list PySem.F.slot_list_append PySem.F.type_list_append ϑh (kPE (K:=K) (fun k=>tBM k _ _ _ _) (ϕv PySem.F.plainAttrs_dict PySem.F.slot_dict_setdefault PySem.F.type_dict_setdefault (ϕ3 hr) (pv 1) (ϖa (hs:=ϖA) (ϖo (kIx (K:=K) rIxT ϖl) (ϖo (kIx (K:=K) rIxL ϖD) (pv 0) (pv 2) (by intro _ _;rfl)) ϖi (by intro _ _;rfl)) (ϖa (hs:=ϱ2) (ϑa ϖh) ϖh)))) (ϖa (pv 2) ϖh))))))
   (ϖk (ϖF (pv 1))))),?_⟩
 have hsx:S.length=xs.length:=hs2.length
 refine fun d hd=>?_
 have gd:=ϖe hd (.dK [])
 have ed:=ϖd (H:=H) (a:=d) (o:=.dK [])
 generalize upd H d (.dK [])=H1 at gd ed⊢
 refine⟨_,rfl,as_,rfl,⟨xs,gd.seq hs1⟩,?_⟩
 refine ϑt (xs:=xs) (fun i ys τ H'=>Same H1 H'∧(∃ x,τ=[x])∧i≤xs.length∧Paired (KyV H') ((S.take i).map ϕu) ys) ⟨Same.refl _,⟨_,rfl⟩,Nat.zero_le _,.nil⟩ (fun i ys τ H' z=>(gd.trans z.1).seq hs1) ?_ ?_
 ·rintro i x ys τ H2 hx ⟨g2,⟨x0,rfl⟩,hi,hy⟩
  obtain⟨t,ht,b,rfl,hb⟩:=ϖw hs2 hx
  have hil:i < xs.length:=(List.getElem?_eq_some_iff.mp hx).1
  have hb2:=Same.seqT (gd.trans g2) hb
  have hyl:=hy.length
  rw[List.length_map,List.length_take] at hyl
  refine⟨_,rfl,_,_,_,_,rfl,rfl,hb2,rfl,_,rfl,_,_,_,_,rfl,rfl,hb2,rfl,_,rfl,_,_,_,_,rfl,rfl,hb2,rfl,(by show 3≤sizeLine;decide),fun p hp=>⟨szl' (by omega),g2.trans (ϖe hp _),⟨_,rfl⟩,hil,?_⟩⟩
  rw[map_take ht]
  exact ϖt (ϖb (fun _ _ ⟨b',e1,e2⟩=>⟨b',e1,ϖe hp _ _ _ e2⟩) hy) (.cons ⟨p,rfl,ϖd⟩ .nil)
 rintro ks τ H2 ⟨g2,_,_,hky⟩ lk hlk
 rw[← hsx,List.take_length] at hky
 have hkl:=hky.length
 rw[List.length_map] at hkl
 have gk:=ϖe hlk (.lst ks)
 have ek:=ϖd (H:=H2) (a:=lk) (o:=.lst ks)
 have hky:Paired (KyV (upd H2 lk (.lst ks))) (S.map ϕu) ks:=ϖb (fun _ _ ⟨b',e1,e2⟩=>⟨b',e1,gk _ _ e2⟩) hky
 have g12:=g2.trans gk
 generalize upd H2 lk (.lst ks)=H3 at gk ek hky g12⊢
 refine⟨lk,ks,rfl,SqL.of ek,by omega,.inr ⟨S.map ϕu,hky,fun lp H4 g4 hlp elp=>?_⟩⟩
 obtain⟨ns,hns⟩:∃ns,ns=twS S:=⟨_,rfl⟩
 have elp:H4 lp=some (.lst (ns.map qV)):=by rw[hns];exact elp
 have g14:=g12.trans g4
 have ed4:=g14 _ _ ed
 have g04:=gd.trans g14
 have hnm:∀q∈ns,q < S.length:=fun q hq=>ϰm (by rw[← hns];exact hq)
 have lns:ns.length≤9999:=by have:=ϝJ (S.map ϕu);rw[List.length_map] at this;rw[hns];unfold twS;omega
 have lpd:lp≠d:=fun z=>by rw[z,g12 _ _ ed] at hlp;cases hlp
 have hlp0:H lp=none:=(gd.trans g12).free hlp
 refine⟨lp,rfl,⟨_,SqL.of elp⟩,?_⟩
 let Iv_1:Nat→L2.St→Hp→Prop:=(fun i σ H'=>Same H H'∧i≤ns.length∧(∃ x,σ=[some (.ref as_),some (.ref d),x])∧H' lp=some (.lst (ns.map qV))∧∃kvs,H' d=some (.dK kvs)∧Bk isQ (sgK S) (fun l=>if l=lp then some (.lst []) else H l) H' d (ns.take i) kvs∧kvs.map (·.1)=sgs S (ns.take i))
 refine ϖ5 (xs:=ns.map qV) Iv_1
  ⟨g04,Nat.zero_le _,⟨_,rfl⟩,elp,[],ed4,Bk.nil,rfl⟩ (fun i σ H' _ z=>SqL.of z.2.2.2.1) (fun b_ r_ hb_ hr_=>?_) ?_
 ·rintro i x σ H5 hx ⟨g5,hi,⟨x2,rfl⟩,elp5,kvs,ek5,bk,hks⟩
  rw[List.getElem?_map] at hx
  obtain⟨o,ho,rfl⟩:=Option.map_eq_some_iff.mp hx
  have hil:i < ns.length:=(List.getElem?_eq_some_iff.mp ho).1
  have hoS:=hnm o (List.mem_of_getElem? ho)
  obtain⟨v1,hv1,b1,rfl,hb1⟩:=ϖM hs2 (List.getElem?_eq_getElem hoS)
  have lk5:=bk.len
  rw[List.length_take] at lk5
  refine⟨_,rfl,.inr (.inr (.inl ⟨rfl,.inl ⟨kvs,ek5⟩⟩)),?_⟩
  refine⟨_,rfl,_,rfl,_,_,_,_,rfl,rfl,g5.seq hs1,ϖQ hv1,_,_,_,_,rfl,rfl,Same.seqT g5 hb1,rfl,szl (by simp),fun l hl=>?_⟩
  have hkey:sgK S o=Sum.inr S[o].2.1:=by unfold sgK;rw[← ϱF hoS]
  have gl:=ϖe hl (.lst [])
  have el:=ϖd (H:=H5) (a:=l) (o:=.lst [])
  have hld:l≠d:=(ϖn ek5 hl).symm
  have hlp':l≠lp:=(ϖn elp5 hl).symm
  have hl0:H l=none:=g5.free hl
  have hl0':(fun l=>if l=lp then some (.lst []) else H l) l=none:=by show(if l=lp then _ else H l)=none;rw[if_neg hlp'];exact hl0
  have hln:∀k,valV kvs k≠some (.ref l):=fun k hk=>by
   obtain⟨l',ys,e,_,_,h3',_⟩:=bk.there k _ hk
   injection e with e
   subst e
   rw[h3'] at hl;cases hl
  have g6:=g5.trans gl
  have elp6:=gl _ _ elp5
  have ek6:=gl _ _ ek5
  have bk:=bk.mono ϰd gl
  generalize upd H5 l (.lst [])=H6 at gl el g6 elp6 ek6 bk⊢
  refine⟨d,V.str S[o].2.1,.ref l,rfl,rfl,.inl ⟨kvs,sgK S o,ek6,by rw[hkey];rfl,szl' (by omega),fun r hr=>?_,fun hnn=>?_⟩⟩
  ·obtain⟨l2,ys,rfl,e1,e2,e3,e4,e5⟩:=bk.there _ _ hr
   have n2:l2≠lp:=fun z=>by rw[z] at e1;simp at e1
   have e1':H l2=none:=by have:(if l2=lp then some (.lst []) else H l2)=none:=e1;rw[if_neg n2] at this;exact this
   have hyl:ys.length≤9999:=by
    rw[← e4.length]
    have:=List.length_filter_le (fun t'=>decide (sgK S t'=sgK S o)) (ns.take i)
    rw[List.length_take] at this;omega
   refine⟨.inl ⟨rfl,_,SqL.of e3⟩,_,rfl,l2,_,_,rfl,rfl,e3,szl' (by omega),?_⟩
   refine⟨ϖv g6 e1',hil,⟨_,rfl⟩,(ϖq n2.symm).trans elp6,kvs,(ϖq e2.symm).trans ek6,?_,?_⟩
   ·rw[ϖz ho];exact bk.put ϰd hr e3 rfl
   ·rw[ϖz ho,ϰ3,if_pos,hks]
    rw[← hks]
    exact Classical.not_not.mp fun z=>by rw[val_keys.mpr z] at hr;cases hr
  ·have e3:upd H6 d (.dK (putK kvs (sgK S o) (.ref l))) l=some (.lst []):=(ϖq hld).trans el
   refine⟨.inl ⟨rfl,_,SqL.of e3⟩,_,rfl,l,[],_,rfl,rfl,e3,szl' (by simp),?_⟩
   refine⟨ϖv (ϖv g6 hd) hl0,hil,⟨_,rfl⟩,(ϖq hlp'.symm).trans ((ϖq lpd).trans elp6),putK kvs (sgK S o) (.ref l),(ϖq hld.symm).trans ϖd,?_,?_⟩
   ·rw[ϖz ho];exact bk.new ϰd hnn hl0' hld ek6 (fun _ z=>nomatch z) (fun _ _ z=>nomatch z) hln el rfl
   ·rw[ϖz ho,ϰ3,if_neg (hks▸val_keys.mp hnn),ϱu _ hnn,List.map_append,hks];rfl
 rintro σ H5 ⟨g5,_,⟨x2,rfl⟩,_,kvs,ek5,bk,hks⟩
 rw[List.length_map,List.take_length,hns] at bk hks
 exact⟨_,rfl,q d H5 kvs g5 hd ek5 (bk.base fun l hl=>by
  have:(if l=lp then some (.lst []) else H l)=none:=hl
  by_cases c:l=lp
  ·rw[c];exact hlp0
  ·rw[if_neg c] at this;exact this) hks⟩
theorem sc_doubled_steps:FnScope ["steps","doubled","places","one","first","other","second","start","goal"] ["steps"] (ϖj ϑn):=⟨rfl,rfl,rfl,by decide +kernel,rfl,by decide +kernel,by decide +kernel⟩
theorem ϱq (B:Bi mg) {ϖc ϖg:Addr} (XB:Xb K mg ϖc ϖg) (ϕn:Cal P w K mg base "places_by_sign" ["steps"] 2 (spPS K)) {f:Addr}{fd:FuncData} (F:Fun K "doubled_steps" "doubled_steps" ϑn f fd):FnOk P w K mg base CX0 3 f fd ["steps"] (spDS K):=by
 refine F.ok sc_doubled_steps (fun vs H Q E h=>?_) (fun cdv A outer s H vs Q E hr h=>?_)
 ·obtain⟨N,as_,S,rfl,_⟩:=h;rfl
 obtain⟨N,as_,S,rfl,hN,h8,hg,⟨xs,hs1,hs2⟩,ls,sb,q⟩:=h
 refine⟨_,(ϖf (ϖp (i:=1) sc_doubled_steps.nd rfl (Or.inl rfl) (ϑa ϖh))
   (ϖf (ϑd PassesOwn.never (by rfl) (ϛY (ϖE ϕn hr (by decide:2≤2) (by rfl) (ϖa (pv 0) ϖh))) (ϖr (i:=2) sc_doubled_steps.nd rfl (Or.inl rfl)) (ϖk (ϑd PassesOwn.never (by rfl) (kPI (K:=K) (fun k=>ϑ3 k _) (ϖZ (pv 2))) (ϖr (i:=3) sc_doubled_steps.nd rfl (Or.inl rfl)) (ϖf (ϖp (i:=4) sc_doubled_steps.nd rfl (Or.inl rfl) (ϖo (kIx (K:=K) rIxL ϖD) (pv 0) (pv 3) (by intro _ _;rfl)))
   (ϖk (ϑd PassesOwn.never (by rfl) (kPI (K:=K) (fun k=>ϑ3 k _) (ϖZ (pv 2))) (ϖr (i:=5) sc_doubled_steps.nd rfl (Or.inl rfl)) (ϖf (ϖp (i:=6) sc_doubled_steps.nd rfl (Or.inl rfl) (ϖo (kIx (K:=K) rIxL ϖD) (pv 0) (pv 5) (by intro _ _;rfl)))
   (ϖf (ϖp (i:=7) sc_doubled_steps.nd rfl (Or.inl rfl) (ϖG (ϖa (hs:=ϖA) (ϖo (kIx (K:=K) rIxT ϖl) (pv 4) (ϖm (by rfl) B.OUT_OF) (by intro _ _;rfl)) (ϖa (hs:=ϖA) (ϖo (kIx (K:=K) rIxT ϖl) (pv 6) (ϖm (by rfl) B.OUT_OF) (by intro _ _;rfl)) ϖh))))
   (ϖf (ϖp (i:=8) sc_doubled_steps.nd rfl (Or.inl rfl) (ϖG (ϖa (hs:=ϖA) (ϖo (kIx (K:=K) rIxT ϖl) (pv 4) (ϖm (by rfl) B.INTO) (by intro _ _;rfl)) (ϖa (hs:=ϖA) (ϖo (kIx (K:=K) rIxT ϖl) (pv 6) (ϖm (by rfl) B.INTO) (by intro _ _;rfl)) ϖh))))
   (ϖk (ϑm (kPE (K:=K) (fun k=>tBM k _ _ _ _) (ϕv PySem.F.plainAttrs_list PySem.F.slot_list_append PySem.F.type_list_append ϑh (pv 1) (ϖa (hs:=ϱc) (ϖG (ϖa (pv 7) (ϖa (hs:=ϱc) (ϖG (ϖa (pv 3) (ϖa (pv 5) ϖh))) (ϖa (hs:=ϱc) (ϖG (ϖa (hs:=ϖA) (ϖo (kIx (K:=K) rIxT ϖl) (pv 4) ϖi (by intro _ _;rfl)) (ϖa (hs:=ϖA) (ϖo (kIx (K:=K) rIxT ϖl) (pv 6) ϖi (by intro _ _;rfl)) ϖh))) (ϖa (pv 8) ϖh))))) ϖh))))))))))))))
   (ϖk (ϖF (pv 1))))),?_⟩
 refine⟨szl (by simp),fun ld hld=>?_⟩
 have gd:=ϖe hld (.lst [])
 have ed:=ϖd (H:=H) (a:=ld) (o:=.lst [])
 generalize upd H ld (.lst [])=H1 at gd ed⊢
 refine⟨_,rfl,as_,S,rfl,⟨xs,gd.seq hs1,ϖb (fun _ _=>StV.mono (Same.grow gd)) hs2⟩,ls,fun d H2 kvs g2 hd ek bk hks=>⟨d,kvs,rfl,ek,fun o=>?_⟩⟩
 have hk:=pls_of bk hks
 have lk:kvs.length≤9999:=by have:=bk.len;have:=twS_le S;omega
 have ed2:=g2 _ _ ed
 have hdl:ld≠d:=fun z=>by rw[← z,ed] at hd;cases hd
 have hdl':=hdl.symm
 have hd0:H d=none:=gd.free hd
 have g02:=gd.trans g2
 have hk3:∀kv∈kvs,PlS S H1 (upd H2 d (.frz o (.dK kvs))) d kv:=fun kv h=>(hk kv h).oth fun l xs _ _ h=>h
 have ed3:upd H2 d (.frz o (.dK kvs)) ld=some (.lst []):=(ϖq hdl).trans ed2
 have ek3:=ϖd (H:=H2) (a:=d) (o:=.frz o (.dK kvs))
 have g03:=ϖv (o:=.frz o (.dK kvs)) g02 hd0
 generalize upd H2 d (.frz o (.dK kvs))=H3 at hk3 ed3 ek3 g03⊢
 refine ϝr (kvs:=kvs) (fun i σ H'=>Same H H'∧i≤kvs.length∧(∃ x2 x3 x4 x5 x6 x7 x8,σ=[some (.ref as_),some (.ref ld),x2,x3,x4,x5,x6,x7,x8])∧H' d=some (.frz o (.dK kvs))∧(∀ kv∈kvs,PlS S H1 H' d kv)∧∃(zs:List V),H' ld=some (.lst zs)∧Paired (DsV N K H') (((sgs S (twS S)).take i).flatMap fun k=>dsG N S (gr S k)) zs)
  ⟨g03,Nat.zero_le _,⟨_,_,_,_,_,_,_,rfl⟩,ek3,hk3,[],ed3,.nil⟩ (fun i σ H' _ z=>z.2.2.2.1) ?_ ?_
 ·rintro i ky y σ H4 hkv ⟨g4,hi,⟨x2,x3,x4,x5,x6,x7,x8,rfl⟩,ek4,hk4,zs,ez,hD⟩
  obtain⟨lp,hy,lpd,lp1,elp0⟩:=hk4 _ (List.mem_of_getElem? hkv)
  have hgi:(sgs S (twS S))[i]?=some ky:=by rw[← hks,List.getElem?_map,hkv];rfl
  obtain⟨ns,hns⟩:∃ns,ns=gr S ky:=⟨_,rfl⟩
  have elp:H4 lp=some (.lst (ns.map qV)):=by rw[hns];exact elp0
  have hnm:∀q∈ns,q < S.length:=fun q hq=>gr_lt (by rw[← hns];exact hq)
  have lns:ns.length≤300:=by have:=ϛb h8 sb ky;rw[hns];omega
  have hz0:=ϡe h8 hg sb i
  have hy:y=.ref lp:=hy
  subst hy
  have hil:i < kvs.length:=(List.getElem?_eq_some_iff.mp hkv).1
  have hpl:lp≠ld:=fun z=>by rw[z,ed] at lp1;cases lp1
  have hlist:∀{G:Hp}{o':HO},(∀ kv∈kvs,PlS S H1 G d kv)→∀kv∈kvs,PlS S H1 (upd G ld o') d kv:=fun h kv hkv=>(h kv hkv).oth fun l xs _ z _ y=>by rw[y,ed] at z;cases z
  refine⟨_,rfl,lp,rfl,⟨_,SqL.of elp⟩,?_⟩
  let Iv_1:Nat→L2.St→Hp→Prop:=(fun j σ H'=>Same H H'∧j≤ns.length∧(∃ x3 x4 x5 x6 x7 x8,σ=[some (.ref as_),some (.ref ld),some (.ref lp),x3,x4,x5,x6,x7,x8])∧H' d=some (.frz o (.dK kvs))∧H' lp=some (.lst (ns.map qV))∧(∀ kv∈kvs,PlS S H1 H' d kv)∧∃(zs:List V),H' ld=some (.lst zs)∧Paired (DsV N K H') ((((sgs S (twS S)).take i).flatMap fun k=>dsG N S (gr S k))++(ns.take j).flatMap fun o=>ns.map (dsk N S o)) zs∧zs.length≤90000+300*j)
  refine ϖ5 (xs:=ns.map qV) Iv_1
   ⟨g4,Nat.zero_le _,⟨_,_,_,_,_,_,rfl⟩,ek4,elp,hk4,zs,ez,by rw[List.take_zero,List.flatMap_nil,List.append_nil];exact hD,by rw[← hD.length];omega⟩ (fun j σ H' _ z=>SqL.of z.2.2.2.2.1) (fun b_ r_ hb_ hr_=>?_) ?_
  ·clear ez hD zs ek4 hk4 elp g4
   rintro j x σ H4 hx ⟨g4,hj,⟨x3,x4,x5,x6,x7,x8,rfl⟩,ek4,elp,hk4,zs,ez,hD,lD⟩
   rw[List.getElem?_map] at hx
   obtain⟨o1,ho1,rfl⟩:=Option.map_eq_some_iff.mp hx
   have hjl:j < ns.length:=(List.getElem?_eq_some_iff.mp ho1).1
   have hoS:=hnm o1 (List.mem_of_getElem? ho1)
   obtain⟨v1,hv1,b1,rfl,hb1⟩:=ϖM hs2 (List.getElem?_eq_getElem hoS)
   have m1:=sb _ (List.getElem_mem hoS)
   refine⟨_,rfl,_,rfl,_,_,_,_,rfl,rfl,g4.seq hs1,ϖQ hv1,?_⟩
   refine⟨_,rfl,lp,rfl,⟨_,SqL.of elp⟩,?_⟩
   let Iv_2:Nat→L2.St→Hp→Prop:=(fun n σ H'=>Same H H'∧n≤ns.length∧(∃ x5 x6 x7 x8,σ=[some (.ref as_),some (.ref ld),some (.ref lp),some (qV o1),some (.ref b1),x5,x6,x7,x8])∧H' d=some (.frz o (.dK kvs))∧H' lp=some (.lst (ns.map qV))∧(∀ kv∈kvs,PlS S H1 H' d kv)∧∃(zs:List V),H' ld=some (.lst zs)∧Paired (DsV N K H') ((((sgs S (twS S)).take i).flatMap fun k=>dsG N S (gr S k))++((ns.take j).flatMap fun o=>ns.map (dsk N S o))++(ns.take n).map (dsk N S o1)) zs∧zs.length≤90000+300*j+n)
   refine ϖ5 (xs:=ns.map qV) Iv_2
    ⟨g4,Nat.zero_le _,⟨_,_,_,_,rfl⟩,ek4,elp,hk4,zs,ez,by rw[List.take_zero,List.map_nil,List.append_nil];exact hD,lD⟩ (fun j σ H' _ z=>SqL.of z.2.2.2.2.1) (fun b_ r_ hb_ hr_=>?_) ?_
   ·clear ez hD lD zs ek4 hk4 elp g4
    rintro n x σ H4 hx ⟨g4,hn,⟨x5,x6,x7,x8,rfl⟩,ek4,elp,hk4,zs,ez,hD,lD⟩
    rw[List.getElem?_map] at hx
    obtain⟨o2,ho2,rfl⟩:=Option.map_eq_some_iff.mp hx
    have hnl:n < ns.length:=(List.getElem?_eq_some_iff.mp ho2).1
    have hoS2:=hnm o2 (List.mem_of_getElem? ho2)
    obtain⟨v2,hv2,b2,rfl,hb2⟩:=ϖM hs2 (List.getElem?_eq_getElem hoS2)
    have m2:=sb _ (List.getElem_mem hoS2)
    obtain⟨ma,hma⟩:∃ma,ma=S[o1]:=⟨_,rfl⟩
    obtain⟨mc,hmc⟩:∃mc,mc=S[o2]:=⟨_,rfl⟩
    rw[← hma] at hb1 m1
    rw[← hmc] at hb2 m2
    have hdk:dsk N S o1 o2=(enc N ma.1 mc.1,(o1,o2),(ma.2.2.1,mc.2.2.1),enc N ma.2.2.2 mc.2.2.2):=by unfold dsk;rw[hma,hmc,ϱF,ϱF]
    have c1:=Same.seqT g4 hb1
    have c2:=Same.seqT g4 hb2
    refine⟨_,rfl,_,rfl,_,_,_,_,rfl,rfl,g4.seq hs1,ϖQ hv2,?_⟩
    refine⟨_,rfl,_,_,_,_,rfl,rfl,c1,rfl,_,rfl,_,_,_,_,rfl,rfl,c2,rfl,(by show 2≤sizeLine;decide),fun t1 ht1=>?_⟩
    have k1:=ϖe ht1 (.tup [V.int ma.1,V.int mc.1])
    have f1:=ϖd (H:=H4) (a:=t1) (o:=.tup [V.int ma.1,V.int mc.1])
    generalize upd H4 t1 (.tup [V.int ma.1,V.int mc.1])=J1 at k1 f1⊢
    have c1:=Same.seqT k1 c1
    have c2:=Same.seqT k1 c2
    refine⟨_,rfl,_,_,_,_,rfl,rfl,c1,rfl,_,rfl,_,_,_,_,rfl,rfl,c2,rfl,(by show 2≤sizeLine;decide),fun t0 ht0=>?_⟩
    have k0:=ϖe ht0 (.tup [V.int ma.2.2.2,V.int mc.2.2.2])
    have f0:=ϖd (H:=J1) (a:=t0) (o:=.tup [V.int ma.2.2.2,V.int mc.2.2.2])
    have f1:=k0 _ _ f1
    have k1:=k1.trans k0
    have c1:=Same.seqT k0 c1
    have c2:=Same.seqT k0 c2
    generalize upd J1 t0 (.tup [V.int ma.2.2.2,V.int mc.2.2.2])=J0 at k0 f0 f1 k1 c1 c2⊢
    refine⟨_,rfl,.inl ⟨rfl,_,SqL.of (k1 _ _ ez)⟩,_,rfl,_,rfl,_,rfl,(by show 2≤sizeLine;decide),fun t2 ht2=>?_⟩
    have k2:=ϖe ht2 (.tup [qV o1,qV o2])
    have f2:=ϖd (H:=J0) (a:=t2) (o:=.tup [qV o1,qV o2])
    have f1:=k2 _ _ f1
    have f0:=k2 _ _ f0
    dsimp only at ht2⊢
    generalize upd J0 t2 (.tup [qV o1,qV o2])=J2 at k2 f0 f1 f2⊢
    have kk:=k1.trans k2
    refine⟨_,rfl,_,_,_,_,rfl,rfl,Same.seqT k2 c1,rfl,_,rfl,_,_,_,_,rfl,rfl,Same.seqT k2 c2,rfl,(by show 2≤sizeLine;decide),fun t3 ht3=>?_⟩
    have k3:=ϖe ht3 (.tup [V.str ma.2.2.1,V.str mc.2.2.1])
    have f3:=ϖd (H:=J2) (a:=t3) (o:=.tup [V.str ma.2.2.1,V.str mc.2.2.1])
    have f0:=k3 _ _ f0
    have f1:=k3 _ _ f1
    have f2:=k3 _ _ f2
    dsimp only at ht3⊢
    generalize upd J2 t3 (.tup [V.str ma.2.2.1,V.str mc.2.2.1])=J3 at k3 f0 f1 f2 f3⊢
    refine⟨_,rfl,(by show 4≤sizeLine;decide),fun t4 ht4=>?_⟩
    have k4:=ϖe ht4 (.tup [V.ref t1,V.ref t2,V.ref t3,V.ref t0])
    have f4:=ϖd (H:=J3) (a:=t4) (o:=.tup [V.ref t1,V.ref t2,V.ref t3,V.ref t0])
    have f0:=k4 _ _ f0
    have f1:=k4 _ _ f1
    have f2:=k4 _ _ f2
    have f3:=k4 _ _ f3
    have kq:=(kk.trans k3).trans k4
    have ez:=kq _ _ ez
    have g4:=g4.trans kq
    have ek4:=kq _ _ ek4
    have elp:=kq _ _ elp
    have hk4:∀kv∈kvs,PlS S H1 (upd J3 t4 (.tup [V.ref t1,V.ref t2,V.ref t3,V.ref t0])) d kv:=fun kv h=>(hk4 kv h).same kq
    have hD:=ϖb (fun _ _=>DsV.gt (GT.of kq) (TS.of kq)) hD
    generalize upd J3 t4 (.tup [V.ref t1,V.ref t2,V.ref t3,V.ref t0])=J4 at k4 f0 f1 f2 f3 f4 kq ez g4 ek4 elp hk4 hD⊢
    refine⟨ld,zs,.ref t4,rfl,rfl,ez,(by rw[sizeLine_eq];omega),?_⟩
    have gt:=ϱN ez (.lst (zs++[V.ref t4]))
    have ts:=ϝN ez (fun _ z=>nomatch z) (.lst (zs++[V.ref t4]))
    refine⟨ϖv g4 hld,hnl,⟨_,_,_,_,rfl⟩,(ϖq hdl').trans ek4,(ϖq hpl).trans elp,hlist hk4,zs++[.ref t4],ϖd,?_,by rw[List.length_append,List.length_singleton];omega⟩
    rw[map_take ho2,← List.append_assoc,hdk]
    refine ϖt (ϖb (fun _ _=>DsV.gt gt ts) hD) (.cons ⟨t4,t1,t2,t3,t0,rfl,gt.seqT (SqT.of f4),?_,gt.seqT (SqT.of f2),gt.seqT (SqT.of f3),?_⟩ .nil)
    ·show _=some (tupR N (enc N ma.1 mc.1))
     rw[ϲ3 m2.1 m2.2.1]
     exact ts _ _ f1
    ·show _=some (tupR N (enc N ma.2.2.2 mc.2.2.2))
     rw[ϲ3 m2.2.2.2.1 m2.2.2.2.2]
     exact ts _ _ f0
   rintro σ H5 ⟨g5,_,⟨x5',x6',x7',x8',rfl⟩,ek5,elp5,hk5,zs,ez,hD,lD⟩
   rw[List.length_map] at lD hD
   rw[List.take_length] at hD
   exact⟨g5,hjl,⟨_,_,_,_,_,_,rfl⟩,ek5,elp5,hk5,zs,ez,by rw[ϲN ho1,← List.append_assoc];exact hD,by omega⟩
  rintro σ H5 ⟨g5,_,⟨x3',x4',x5',x6',x7',x8',rfl⟩,ek5,elp5,hk5,zs,ez,hD,lD⟩
  rw[List.length_map,List.take_length] at hD
  exact⟨g5,hil,⟨_,_,_,_,_,_,_,rfl⟩,ek5,hk5,zs,ez,by rw[ϲN hgi];rw[hns] at hD;exact hD⟩
 rintro σ H5 ⟨g5,_,⟨x2,x3,x4,x5,x6,x7,x8,rfl⟩,_,_,zs,ez,hD⟩
 have hkl:kvs.length=(sgs S (twS S)).length:=by rw[← hks,List.length_map]
 rw[hkl,List.take_length] at hD
 exact⟨_,rfl,q ld H5 g5 hld ⟨zs,ez,hD⟩⟩
theorem sc_doubled_of:FnScope ["scribe","begins","steps","ends"] ["scribe"] (ϖj ϑW):=⟨rfl,rfl,rfl,by decide +kernel,rfl,by decide +kernel,by decide +kernel⟩
theorem ϵC (B:Bi mg) {ϖc ϖg:Addr} (XB:Xb K mg ϖc ϖg) (ϑ1:Cal P w K mg base "doubled_marks" ["marks"] 2 (spDM K)) (ϕJ:Cal P w K mg base "doubled_steps" ["steps"] 3 (spDS K)) {f:Addr}{fd:FuncData} (F:Fun K "doubled_of" "doubled_of" ϑW f fd):FnOk P w K mg base CX0 4 f fd ["scribe"] (spDb K):=by
 refine F.ok sc_doubled_of (fun vs H Q E h=>?_) (fun cdv A outer s H vs Q E hr h=>?_)
 ·obtain⟨v,s,pb,ps,pe,rfl,_⟩:=h;rfl
 obtain⟨v,s,pb,ps,pe,rfl,hV,ok,sh,lb,ls,le,hsg,r0,r8,q⟩:=h
 refine⟨_,(ϖf (ϖp (i:=1) sc_doubled_of.nd rfl (Or.inl rfl) (ϖE ϑ1 hr (by decide:2≤3) (by rfl) (ϖa (hs:=ϖA) (ϖo (kIx (K:=K) rIxT ϖl) (pv 0) (ϖm (by rfl) B.BEGINS) (by intro _ _;rfl)) ϖh)))
   (ϖf (ϖp (i:=2) sc_doubled_of.nd rfl (Or.inl rfl) (ϖE ϕJ hr (by decide:3≤3) (by rfl) (ϖa (hs:=ϖA) (ϖo (kIx (K:=K) rIxT ϖl) (pv 0) (ϖm (by rfl) B.STEPS) (by intro _ _;rfl)) ϖh)))
   (ϖf (ϖp (i:=3) sc_doubled_of.nd rfl (Or.inl rfl) (ϖE ϑ1 hr (by decide:2≤3) (by rfl) (ϖa (hs:=ϖA) (ϖo (kIx (K:=K) rIxT ϖl) (pv 0) (ϖm (by rfl) B.ENDS) (by intro _ _;rfl)) ϖh)))
   (ϖk (ϖF (ϖG (ϖa (hs:=ϖA) (ϖo (kIx (K:=K) rIxT ϖl) (pv 0) (ϖm (by rfl) B.SIGNS) (by intro _ _;rfl)) (ϖa (hs:=ϑK) (ϖu ϑq (ϖo (kIx (K:=K) rIxT ϖl) (pv 0) (ϖm (by rfl) B.ROOMS) (by intro _ _;rfl)) (ϖo (kIx (K:=K) rIxT ϖl) (pv 0) (ϖm (by rfl) B.ROOMS) (by intro _ _;rfl))) (ϖa (pv 1) (ϖa (pv 2) (ϖa (pv 3) ϖh))))))))))),?_⟩
 obtain⟨a,xb,xs,xe,rfl,h1,h2,h3,h4,h5,h6,h7⟩:=hV
 obtain⟨N,hNe⟩:∃N,N=nOf s:=⟨_,rfl⟩
 rw[← hNe] at q
 have hN:0 < N:=by rw[hNe];unfold nOf;split<;>omega
 have hNR:s.rooms≤N:=by rw[hNe];unfold nOf;split<;>omega
 have hNR2:N≤8:=by rw[hNe];unfold nOf;split<;>omega
 have hNN:N*N≤64:=by
  have e1:N*N≤8*N:=Int.mul_le_mul_of_nonneg_right hNR2 (by omega)
  omega
 have hNN0:0≤N*N:=Int.mul_nonneg (by omega) (by omega)
 have bB:∀m∈s.begins,0≤m.1∧m.1 < N∧m.2.length≤100:=fun m hm=>⟨(ok.mb m hm).1,by have:=(ok.mb m hm).2;omega,sh.1 m hm⟩
 have bE:∀m∈s.ends,0≤m.1∧m.1 < N∧m.2.length≤100:=fun m hm=>⟨(ok.me m hm).1,by have:=(ok.me m hm).2;omega,sh.2.2 m hm⟩
 have bS:∀t∈s.steps,0≤t.1∧t.1 < N∧t.2.2.1.length≤100∧0≤t.2.2.2∧t.2.2.2 < N:=fun t ht=>⟨(ok.ms t ht).1,by have:=(ok.ms t ht).2.1;omega,(sh.2.1 t ht).2,(ok.ms t ht).2.2.1,by have:=(ok.ms t ht).2.2.2;omega⟩
 have eB:dB s=dmL N s.begins:=by unfold dB;rw[hNe]
 have eS:dS s=dsL N s.steps:=by unfold dS;rw[hNe]
 have eE:dE s=dmL N s.ends:=by unfold dE;rw[hNe]
 rw[eB,eS,eE] at q
 refine⟨_,rfl,_,_,_,_,rfl,rfl,h1,rfl,N,pb,s.begins,rfl,hN,hNR2,⟨xb,h2,h5⟩,by omega,bB,fun lB H1 g1 hlB ⟨zb,eb,pB⟩=>?_⟩
 refine⟨_,rfl,_,_,_,_,rfl,rfl,Same.seqT g1 h1,rfl,N,ps,s.steps,rfl,hN,hNR2,hsg,⟨xs,g1.seq h3,ϖb (fun _ _=>StV.mono (Same.grow g1)) h6⟩,by omega,bS,fun lS H2 g2 hlS ⟨zs,es,pS⟩=>?_⟩
 have g12:=g1.trans g2
 refine⟨_,rfl,_,_,_,_,rfl,rfl,Same.seqT g12 h1,rfl,N,pe,s.ends,rfl,hN,hNR2,⟨xe,g12.seq h4,ϖb (fun _ _=>MkV.mono (Same.grow g12)) h7⟩,by omega,bE,fun lE H3 g3 hlE ⟨ze,ee,pE⟩=>?_⟩
 have g13:=g12.trans g3
 have t1:=Same.seqT g13 h1
 refine⟨_,rfl,_,_,_,_,rfl,rfl,t1,rfl,_,rfl,_,_,_,_,rfl,rfl,t1,rfl,_,rfl,_,_,_,_,rfl,rfl,t1,rfl,_,_,rfl,rfl,.inl ⟨by omega,by omega⟩,_,rfl,_,rfl,_,rfl,(by show 5≤sizeLine;decide),fun v hv=>?_⟩
 have gv:=ϖe hv (.tup [V.str s.signs,V.int (s.rooms*s.rooms),V.ref lB,V.ref lS,V.ref lE])
 have G1:=(g2.trans g3).trans gv
 have G2:=g3.trans gv
 have z1:=ϟw hNR2 bB
 have z2:=ϛ8 hNR2 hsg bS
 have z3:=ϟw hNR2 bE
 exact q _ _ lB lS lE (g13.trans gv) ⟨v,_,zb,zs,ze,rfl,SqT.of ϖd,SqL.of (G1 _ _ eb),SqL.of (G2 _ _ es),SqL.of (gv _ _ ee),ϖb (fun _ _=>DmV.gt (GT.of G1) (TS.of G1)) pB,ϖb (fun _ _=>DsV.gt (GT.of G2) (TS.of G2)) pS,ϖb (fun _ _=>DmV.gt (GT.of gv) (TS.of gv)) pE⟩ ⟨ϝT bB,dsL_ok bS,ϝT bE,by omega,by omega,by omega,hNN0,by omega⟩
theorem ϰl:FnScope ["ahead","behind"] ["ahead","behind"] (ϖj ϖU):=⟨rfl,rfl,rfl,by decide +kernel,rfl,by decide +kernel,by decide +kernel⟩
theorem ϕ8 (B:Bi mg) {ϖc ϖg:Addr} (XB:Xb K mg ϖc ϖg)  {f:Addr}{fd:FuncData} (F:Fun K "behind_one_another" "behind_one_another" ϖU f fd):FnOk P w K mg base CX0 1 f fd ["ahead","behind"] (spB1 K):=by
 refine F.ok ϰl (fun vs H Q E h=>?_) (fun cdv A outer s H vs Q E hr h=>?_)
 ·obtain⟨p,q,a,b,c,d,rfl,_⟩:=h;rfl
 obtain⟨p,p2,a,b,c,d,rfl,h1,h2,l1,l2,q⟩:=h
 refine⟨_,(ϖk (ϖF (ϖG (ϖa (hs:=ϑK) (ϖu ϑk (ϖo (kIx (K:=K) rIxT ϖl) (pv 0) ϖi (by intro _ _;rfl)) (ϖo (kIx (K:=K) rIxT ϖl) (pv 1) ϖi (by intro _ _;rfl))) (ϖa (hs:=ϑK) (ϖu ϑk (ϖo (kIx (K:=K) rIxT ϖl) (pv 0) ϖi (by intro _ _;rfl)) (ϖo (kIx (K:=K) rIxT ϖl) (pv 1) ϖi (by intro _ _;rfl))) ϖh))))),?_⟩
 refine⟨_,rfl,_,_,_,_,rfl,rfl,h1,rfl,_,rfl,_,_,_,_,rfl,rfl,h2,rfl,_,_,rfl,rfl,szl (by omega),_,rfl,_,_,_,_,rfl,rfl,h1,rfl,_,rfl,_,_,_,_,rfl,rfl,h2,rfl,_,_,rfl,rfl,szl (by omega),(by show 2≤sizeLine;decide),fun t ht=>?_⟩
 exact q t _ (ϖe ht _) ϖd
theorem sc_words_ahead:FnScope ["double","ahead","words","pair","trace","step"] ["double","ahead"] (ϖj ϑH):=⟨rfl,rfl,rfl,by decide +kernel,rfl,by decide +kernel,by decide +kernel⟩
theorem ϱ6 (B:Bi mg) {ϖc ϖg:Addr} (XB:Xb K mg ϖc ϖg) (ϖC:Cal P w K mg base "behind_one_another" ["ahead","behind"] 1 (spB1 K)) {f:Addr}{fd:FuncData} (F:Fun K "words_ahead" "words_ahead" ϑH f fd):FnOk P w K mg base CX0 2 f fd ["double","ahead"] (spWA K):=by
 refine F.ok sc_words_ahead (fun vs H Q E h=>?_) (fun cdv A outer s H vs Q E hr h=>?_)
 ·obtain⟨N,v,g,R,B,S,E,pb,ps,pe,d,T,rfl,_⟩:=h;rfl
 obtain⟨N,v,g,R,Bm,S,Em,pb,ps,pe,d,T,rfl,hV,ok,⟨o,kvs,ed,hT⟩,tr,q⟩:=h
 refine⟨_,(ϖf (ϖp (i:=2) sc_words_ahead.nd rfl (Or.inl rfl) ϕ0)
   (ϖf (ϑd PassesOwn.never (by rfl) (ϲo (pv 1)) (kPG (K:=K) (fun k=>gTup k 2 _) (ϑr (n:=2) (by rfl) (ϖs (ϖr (i:=3) sc_words_ahead.nd rfl (Or.inl rfl)) (ϖs (ϖr (i:=4) sc_words_ahead.nd rfl (Or.inl rfl)) ϖ6)))) (ϖk (ϑx (ϖI ϱk (ϖo (kIx (K:=K) rIxT ϖl) (pv 4) ϖi (by intro _ _;rfl)) ϕH (ϖY _)) (ϖk (ϕU (ϑN hr) (pv 2) (pv 3) (ϖo (kIx (K:=K) rIxT ϖl) (ϖo (kIx (K:=K) rIxL ϖD) (ϖo (kIx (K:=K) rIxT ϖl) (pv 0) (ϖm (by rfl) B.BEGINS) (by intro _ _;rfl)) (ϖo (kIx (K:=K) rIxT ϖl) (pv 4) ϖi (by intro _ _;rfl)) (by intro _ _;rfl)) (ϖm (by rfl) B.WORDS) (by intro _ _;rfl)) rfl)) (ϖf (ϖp (i:=5) sc_words_ahead.nd rfl (Or.inl rfl) (ϖo (kIx (K:=K) rIxL ϖD) (ϖo (kIx (K:=K) rIxT ϖl) (pv 0) (ϖm (by rfl) B.STEPS) (by intro _ _;rfl)) (ϖo (kIx (K:=K) rIxT ϖl) (pv 4) ϖi (by intro _ _;rfl)) (by intro _ _;rfl)))
   (ϖk (ϕU (ϑN hr) (pv 2) (pv 3) (ϖE ϖC hr (by decide:1≤1) (by rfl) (ϖa (hs:=ϖA) (ϑ5 (ϑN hr) (pv 2) (ϖo (kIx (K:=K) rIxT ϖl) (pv 5) (ϖm (by rfl) B.OUT_OF) (by intro _ _;rfl)) (by intro _ _;rfl)) (ϖa (hs:=ϖA) (ϖo (kIx (K:=K) rIxT ϖl) (pv 5) (ϖm (by rfl) B.WORDS) (by intro _ _;rfl)) ϖh))) rfl))))))
   (ϖk (ϖF (pv 2))))),?_⟩
 have lT:=ϵ2 tr ok.r9
 have lk:T.length=kvs.length:=hT.length
 obtain⟨a,zz,xb,xs,xe,rfl,h1,h2,h3,h4,h5,h6,h7⟩:=id hV
 refine fun dw hdw=>?_
 have gw:=ϖe hdw (.dT [])
 have ew0:=ϖd (H:=H) (a:=dw) (o:=.dT [])
 have edw:d≠dw:=ϖn ed hdw
 generalize upd H dw (.dT [])=H1 at gw ew0⊢
 refine⟨_,rfl,d,o,kvs,rfl,gw _ _ ed,?_⟩
 refine ϲg (kvs:=kvs) (fun i σ H'=>Same H H'∧i≤kvs.length∧(∃ x3 x4 x5,σ=[some (.ref a),some (.ref d),some (.ref dw),x3,x4,x5])∧∃kw,H' dw=some (.dT kw)∧Paired (WpV N K H' (WdA Bm S T) (100*(i+1))) (T.take i) kw)
  ⟨gw,Nat.zero_le _,⟨_,_,_,rfl⟩,[],ew0,.nil⟩ (fun i σ H' _ z=>z.1 _ _ ed) ?_ ?_
 ·rintro i ky y p b σ H2 hkv ⟨g2,hi,⟨x3,x4,x5,rfl⟩,kw,ew,hw⟩ hp hb
  obtain⟨e,he,hE,t,hy,ht⟩:=ϖw hT hkv
  have hE:ky=keyR N e.1:=hE
  have hy:y=.ref t:=hy
  subst hE hy
  have hil:i < kvs.length:=(List.getElem?_eq_some_iff.mp hkv).1
  have gp:=ϖe hp (.tup [V.ref b,V.ref t])
  have ep:=ϖd (H:=H2) (a:=p) (o:=.tup [V.ref b,V.ref t])
  have g2:=g2.trans gp
  have ew:=gp _ _ ew
  have hb:=gp _ _ hb
  have hw:=ϖb (fun _ _=>WpV.gt (GT.of gp)) hw
  generalize upd H2 p (.tup [V.ref b,V.ref t])=H3 at gp ep g2 ew hb hw⊢
  have ht:=Same.seqT g2 ht
  have t1:=Same.seqT g2 h1
  have hlw:kw.length≤999:=by rw[← hw.length,List.length_take];omega
  have hnk:e.1∉ϖx (T.take i):=fun z=>by
   have nd:=tr.ti.nd
   have e1:ϖx T=ϖx (T.take i)++ϖx (T.drop i):=by unfold ϖx;rw[← List.map_append,List.take_append_drop]
   rw[e1,List.nodup_append] at nd
   have hm:e.1∈ϖx (T.drop i):=by
    unfold ϖx
    refine List.mem_map.mpr ⟨e,?_,rfl⟩
    have:=List.getElem?_drop (xs:=T) (i:=i) (j:=0)
    rw[Nat.add_zero,he] at this
    exact List.mem_of_getElem? this
   exact nd.2.2 _ z _ hm rfl
  have hnv:=ϰJ hw hnk
  have fin:∀{G:Hp}{tt:Addr}{wa wb:Str},Same H3 G→SqT K G tt [.str wa,.str wb]→wa.length≤100*(i+1+1)→wb.length≤100*(i+1+1)→WdA Bm S T e.1 wa wb→Same H (upd G dw (.dT (putK kw (keyR N e.1) (.ref tt))))∧i+1≤kvs.length∧∃kw',upd G dw (.dT (putK kw (keyR N e.1) (.ref tt))) dw=some (.dT kw')∧Paired (WpV N K (upd G dw (.dT (putK kw (keyR N e.1) (.ref tt)))) (WdA Bm S T) (100*(i+1+1))) (T.take (i+1)) kw':=fun {G tt wa wb} gG hq l1 l2 hP=>by
   have gt:=ϕQ (gG _ _ ew) (fun _ z=>nomatch z) (fun _ _ z=>nomatch z) (.dT (putK kw (keyR N e.1) (.ref tt)))
   refine⟨ϖv (g2.trans gG) hdw,hil,_,ϖd,?_⟩
   generalize upd G dw (.dT (putK kw (keyR N e.1) (.ref tt)))=G' at gt⊢
   rw[ϱu _ hnv,ϖz he]
   exact ϖt (ϖb (fun _ _ h=>(h.gt ((GT.of gG).trans gt)).up (by omega)) hw) (.cons ⟨rfl,tt,wa,wb,rfl,gt.seqT hq,l1,l2,hP⟩ .nil)
  refine⟨p,_,rfl,SqT.of ep,rfl,_,_,rfl,_,_,rfl,rfl,?_⟩
  refine⟨_,rfl,_,_,_,_,rfl,rfl,ht,rfl,rfl,_,rfl,?_⟩
  rcases tr.ti.en i e he with⟨hno,m,hm,_⟩|⟨qq,st,hqq,hs,_,j,e',hj,he',hn,_⟩
  ·rw[hno]
   refine ϛ5 rfl ?_
   rw[List.getElem?_map] at hm
   obtain⟨dm,hdm,rfl⟩:=Option.map_eq_some_iff.mp hm
   obtain⟨v1,hv1,bb,cc,pp,ww,rfl,q1,q2,q3,q4⟩:=ϖM h5 hdm
   have okm:=ok.b dm (List.mem_of_getElem? hdm)
   refine⟨_,rfl,_,_,_,_,rfl,rfl,t1,rfl,_,rfl,_,_,_,_,rfl,rfl,ht,rfl,_,_,_,_,rfl,rfl,g2.seq h2,ϖQ hv1,_,_,_,_,rfl,rfl,Same.seqT g2 q1,rfl,_,rfl,_,rfl,dw,_,rfl,DPut.t (k:=keyR N e.1) ew hb (szl' (by omega)),?_⟩
   obtain⟨f1,f2,f3⟩:=fin (Same.refl _) (Same.seqT g2 q4) (by have:=okm.2.2.1;omega) (by have:=okm.2.2.2;omega) (.stop he hno hdm)
   exact⟨f1,f2,⟨_,_,_,rfl⟩,f3⟩
  ·rw[hqq]
   refine iteD (fun z=>nomatch z) ?_
   rw[List.getElem?_map] at hs
   obtain⟨ds,hds,rfl⟩:=Option.map_eq_some_iff.mp hs
   obtain⟨v1,hv1,bb,c,pp,sw,ee,rfl,q1,q2,q3,q4,q5⟩:=ϖM h6 hds
   have okd:=ok.s ds (List.mem_of_getElem? hds)
   have hbS:=Same.seqT g2 q1
   have hsw:=Same.seqT g2 q4
   have hroom:=g2 _ _ q2
   have hkey:ds.1∈ϖx (T.take i):=by
    unfold ϖx
    refine List.mem_map.mpr ⟨e',?_,hn⟩
    have:(T.take i)[j]?=some e':=by rw[List.getElem?_take_of_lt hj];exact he'
    exact List.mem_of_getElem? this
   obtain⟨tw,wa,wb,hvw,htw,la,lb,hwp⟩:=ϱE hw hkey
   refine⟨_,rfl,_,_,_,_,rfl,rfl,t1,rfl,_,rfl,_,_,_,_,rfl,rfl,ht,by rw[hqq];rfl,_,_,_,_,rfl,rfl,g2.seq h3,ϖQ hv1,?_⟩
   refine⟨_,rfl,_,rfl,_,_,_,_,rfl,rfl,hbS,rfl,dw,_,rfl,hvw▸DGet.t (k:=keyR N ds.1) ew hroom,_,rfl,_,_,_,_,rfl,rfl,hbS,rfl,tw,sw,wa,wb,ds.2.2.1.1,ds.2.2.1.2,rfl,htw,hsw,by omega,by omega,fun t2 H4 g4 et2=>⟨_,rfl,_,rfl,dw,_,rfl,DPut.t (k:=keyR N e.1) (g4 _ _ ew) (g4 _ _ hb) (szl' (by omega)),?_⟩⟩
   obtain⟨f1,f2,f3⟩:=fin g4 (SqT.of et2) (by rw[ϑi];omega) (by rw[ϑi];omega) (.step he hqq hds hwp)
   exact⟨f1,f2,⟨_,_,_,rfl⟩,f3⟩
 rintro σ H2 ⟨g2,_,⟨x3,x4,x5,rfl⟩,kw,ew,hw⟩
 rw[← lk,List.take_length] at hw
 exact⟨_,rfl,q dw H2 g2 ⟨kw,ew,ϖb (fun _ _=>WpV.up (by omega)) hw⟩⟩
theorem sc_words_behind:FnScope ["double","behind","words","pair","trace","step"] ["double","behind"] (ϖj ϑw):=⟨rfl,rfl,rfl,by decide +kernel,rfl,by decide +kernel,by decide +kernel⟩
theorem ϱV (B:Bi mg) {ϖc ϖg:Addr} (XB:Xb K mg ϖc ϖg) (ϖC:Cal P w K mg base "behind_one_another" ["ahead","behind"] 1 (spB1 K)) {f:Addr}{fd:FuncData} (F:Fun K "words_behind" "words_behind" ϑw f fd):FnOk P w K mg base CX0 2 f fd ["double","behind"] (spWB K):=by
 refine F.ok sc_words_behind (fun vs H Q E h=>?_) (fun cdv A outer s H vs Q E hr h=>?_)
 ·obtain⟨N,v,g,R,B,S,E,pb,ps,pe,d,T,rfl,_⟩:=h;rfl
 obtain⟨N,v,g,R,Bm,S,Em,pb,ps,pe,d,T,rfl,hV,ok,⟨o,kvs,ed,hT⟩,tr,q⟩:=h
 refine⟨_,(ϖf (ϖp (i:=2) sc_words_behind.nd rfl (Or.inl rfl) ϕ0)
   (ϖf (ϑd PassesOwn.never (by rfl) (ϲo (pv 1)) (kPG (K:=K) (fun k=>gTup k 2 _) (ϑr (n:=2) (by rfl) (ϖs (ϖr (i:=3) sc_words_behind.nd rfl (Or.inl rfl)) (ϖs (ϖr (i:=4) sc_words_behind.nd rfl (Or.inl rfl)) ϖ6)))) (ϖk (ϑx (ϖI ϱk (ϖo (kIx (K:=K) rIxT ϖl) (pv 4) ϖi (by intro _ _;rfl)) ϕH (ϖY _)) (ϖk (ϕU (ϑN hr) (pv 2) (pv 3) (ϖo (kIx (K:=K) rIxT ϖl) (ϖo (kIx (K:=K) rIxL ϖD) (ϖo (kIx (K:=K) rIxT ϖl) (pv 0) (ϖm (by rfl) B.ENDS) (by intro _ _;rfl)) (ϖo (kIx (K:=K) rIxT ϖl) (pv 4) ϖi (by intro _ _;rfl)) (by intro _ _;rfl)) (ϖm (by rfl) B.WORDS) (by intro _ _;rfl)) rfl)) (ϖf (ϖp (i:=5) sc_words_behind.nd rfl (Or.inl rfl) (ϖo (kIx (K:=K) rIxL ϖD) (ϖo (kIx (K:=K) rIxT ϖl) (pv 0) (ϖm (by rfl) B.STEPS) (by intro _ _;rfl)) (ϖo (kIx (K:=K) rIxT ϖl) (pv 4) ϖi (by intro _ _;rfl)) (by intro _ _;rfl)))
   (ϖk (ϕU (ϑN hr) (pv 2) (pv 3) (ϖE ϖC hr (by decide:1≤1) (by rfl) (ϖa (hs:=ϖA) (ϖo (kIx (K:=K) rIxT ϖl) (pv 5) (ϖm (by rfl) B.WORDS) (by intro _ _;rfl)) (ϖa (hs:=ϖA) (ϑ5 (ϑN hr) (pv 2) (ϖo (kIx (K:=K) rIxT ϖl) (pv 5) (ϖm (by rfl) B.INTO) (by intro _ _;rfl)) (by intro _ _;rfl)) ϖh))) rfl))))))
   (ϖk (ϖF (pv 2))))),?_⟩
 have lT:=ϵ2 tr ok.r9
 have lk:T.length=kvs.length:=hT.length
 obtain⟨a,zz,xb,xs,xe,rfl,h1,h2,h3,h4,h5,h6,h7⟩:=id hV
 refine fun dw hdw=>?_
 have gw:=ϖe hdw (.dT [])
 have ew0:=ϖd (H:=H) (a:=dw) (o:=.dT [])
 have edw:d≠dw:=ϖn ed hdw
 generalize upd H dw (.dT [])=H1 at gw ew0⊢
 refine⟨_,rfl,d,o,kvs,rfl,gw _ _ ed,?_⟩
 refine ϲg (kvs:=kvs) (fun i σ H'=>Same H H'∧i≤kvs.length∧(∃ x3 x4 x5,σ=[some (.ref a),some (.ref d),some (.ref dw),x3,x4,x5])∧∃kw,H' dw=some (.dT kw)∧Paired (WpV N K H' (WdB Em S T) (100*(i+1))) (T.take i) kw)
  ⟨gw,Nat.zero_le _,⟨_,_,_,rfl⟩,[],ew0,.nil⟩ (fun i σ H' _ z=>z.1 _ _ ed) ?_ ?_
 ·rintro i ky y p b σ H2 hkv ⟨g2,hi,⟨x3,x4,x5,rfl⟩,kw,ew,hw⟩ hp hb
  obtain⟨e,he,hE,t,hy,ht⟩:=ϖw hT hkv
  have hE:ky=keyR N e.1:=hE
  have hy:y=.ref t:=hy
  subst hE hy
  have hil:i < kvs.length:=(List.getElem?_eq_some_iff.mp hkv).1
  have gp:=ϖe hp (.tup [V.ref b,V.ref t])
  have ep:=ϖd (H:=H2) (a:=p) (o:=.tup [V.ref b,V.ref t])
  have g2:=g2.trans gp
  have ew:=gp _ _ ew
  have hb:=gp _ _ hb
  have hw:=ϖb (fun _ _=>WpV.gt (GT.of gp)) hw
  generalize upd H2 p (.tup [V.ref b,V.ref t])=H3 at gp ep g2 ew hb hw⊢
  have ht:=Same.seqT g2 ht
  have t1:=Same.seqT g2 h1
  have hlw:kw.length≤999:=by rw[← hw.length,List.length_take];omega
  have hnk:e.1∉ϖx (T.take i):=fun z=>by
   have nd:=tr.ti.nd
   have e1:ϖx T=ϖx (T.take i)++ϖx (T.drop i):=by unfold ϖx;rw[← List.map_append,List.take_append_drop]
   rw[e1,List.nodup_append] at nd
   have hm:e.1∈ϖx (T.drop i):=by
    unfold ϖx
    refine List.mem_map.mpr ⟨e,?_,rfl⟩
    have:=List.getElem?_drop (xs:=T) (i:=i) (j:=0)
    rw[Nat.add_zero,he] at this
    exact List.mem_of_getElem? this
   exact nd.2.2 _ z _ hm rfl
  have hnv:=ϰJ hw hnk
  have fin:∀{G:Hp}{tt:Addr}{wa wb:Str},Same H3 G→SqT K G tt [.str wa,.str wb]→wa.length≤100*(i+1+1)→wb.length≤100*(i+1+1)→WdB Em S T e.1 wa wb→Same H (upd G dw (.dT (putK kw (keyR N e.1) (.ref tt))))∧i+1≤kvs.length∧∃kw',upd G dw (.dT (putK kw (keyR N e.1) (.ref tt))) dw=some (.dT kw')∧Paired (WpV N K (upd G dw (.dT (putK kw (keyR N e.1) (.ref tt)))) (WdB Em S T) (100*(i+1+1))) (T.take (i+1)) kw':=fun {G tt wa wb} gG hq l1 l2 hP=>by
   have gt:=ϕQ (gG _ _ ew) (fun _ z=>nomatch z) (fun _ _ z=>nomatch z) (.dT (putK kw (keyR N e.1) (.ref tt)))
   refine⟨ϖv (g2.trans gG) hdw,hil,_,ϖd,?_⟩
   generalize upd G dw (.dT (putK kw (keyR N e.1) (.ref tt)))=G' at gt⊢
   rw[ϱu _ hnv,ϖz he]
   exact ϖt (ϖb (fun _ _ h=>(h.gt ((GT.of gG).trans gt)).up (by omega)) hw) (.cons ⟨rfl,tt,wa,wb,rfl,gt.seqT hq,l1,l2,hP⟩ .nil)
  refine⟨p,_,rfl,SqT.of ep,rfl,_,_,rfl,_,_,rfl,rfl,?_⟩
  refine⟨_,rfl,_,_,_,_,rfl,rfl,ht,rfl,rfl,_,rfl,?_⟩
  rcases tr.ti.en i e he with⟨hno,m,hm,_⟩|⟨qq,st,hqq,hs,_,j,e',hj,he',hn,_⟩
  ·rw[hno]
   refine ϛ5 rfl ?_
   rw[List.getElem?_map] at hm
   obtain⟨dm,hdm,rfl⟩:=Option.map_eq_some_iff.mp hm
   obtain⟨v1,hv1,bb,cc,pp,ww,rfl,q1,q2,q3,q4⟩:=ϖM h7 hdm
   have okm:=ok.e dm (List.mem_of_getElem? hdm)
   refine⟨_,rfl,_,_,_,_,rfl,rfl,t1,rfl,_,rfl,_,_,_,_,rfl,rfl,ht,rfl,_,_,_,_,rfl,rfl,g2.seq h4,ϖQ hv1,_,_,_,_,rfl,rfl,Same.seqT g2 q1,rfl,_,rfl,_,rfl,dw,_,rfl,DPut.t (k:=keyR N e.1) ew hb (szl' (by omega)),?_⟩
   obtain⟨f1,f2,f3⟩:=fin (Same.refl _) (Same.seqT g2 q4) (by have:=okm.2.2.1;omega) (by have:=okm.2.2.2;omega) (.stop he hno hdm)
   exact⟨f1,f2,⟨_,_,_,rfl⟩,f3⟩
  ·rw[hqq]
   refine iteD (fun z=>nomatch z) ?_
   rw[List.getElem?_map] at hs
   obtain⟨ds,hds,rfl⟩:=Option.map_eq_some_iff.mp hs
   obtain⟨v1,hv1,bb,c,pp,sw,ee,rfl,q1,q2,q3,q4,q5⟩:=ϖM h6 hds
   have okd:=ok.s ds (List.mem_of_getElem? hds)
   have hbS:=Same.seqT g2 q1
   have hsw:=Same.seqT g2 q4
   have hroom:=g2 _ _ q5
   have hkey:ds.2.2.2∈ϖx (T.take i):=by
    unfold ϖx
    refine List.mem_map.mpr ⟨e',?_,hn⟩
    have:(T.take i)[j]?=some e':=by rw[List.getElem?_take_of_lt hj];exact he'
    exact List.mem_of_getElem? this
   obtain⟨tw,wa,wb,hvw,htw,la,lb,hwp⟩:=ϱE hw hkey
   refine⟨_,rfl,_,_,_,_,rfl,rfl,t1,rfl,_,rfl,_,_,_,_,rfl,rfl,ht,by rw[hqq];rfl,_,_,_,_,rfl,rfl,g2.seq h3,ϖQ hv1,?_⟩
   refine⟨_,rfl,_,_,_,_,rfl,rfl,hbS,rfl,_,rfl,_,rfl,_,_,_,_,rfl,rfl,hbS,rfl,dw,_,rfl,hvw▸DGet.t (k:=keyR N ds.2.2.2) ew hroom,sw,tw,ds.2.2.1.1,ds.2.2.1.2,wa,wb,rfl,hsw,htw,by omega,by omega,fun t2 H4 g4 et2=>⟨_,rfl,_,rfl,dw,_,rfl,DPut.t (k:=keyR N e.1) (g4 _ _ ew) (g4 _ _ hb) (szl' (by omega)),?_⟩⟩
   obtain⟨f1,f2,f3⟩:=fin g4 (SqT.of et2) (by rw[ϑi];omega) (by rw[ϑi];omega) (.step he hqq hds hwp)
   exact⟨f1,f2,⟨_,_,_,rfl⟩,f3⟩
 rintro σ H2 ⟨g2,_,⟨x3,x4,x5,rfl⟩,kw,ew,hw⟩
 rw[← lk,List.take_length] at hw
 exact⟨_,rfl,q dw H2 g2 ⟨kw,ew,ϖb (fun _ _=>WpV.up (by omega)) hw⟩⟩
theorem ϵ9:FnScope ["ahead","behind"] ["ahead","behind"] (ϖj ϑ9):=⟨rfl,rfl,rfl,by decide +kernel,rfl,by decide +kernel,by decide +kernel⟩
theorem ϲd (B:Bi mg) {ϖc ϖg:Addr} (XB:Xb K mg ϖc ϖg)  {f:Addr}{fd:FuncData} (F:Fun K "are_apart" "are_apart" ϑ9 f fd):FnOk P w K mg base CX0 1 f fd ["ahead","behind"] (spAp K):=by
 refine F.ok ϵ9 (fun vs H Q E h=>?_) (fun cdv A outer s H vs Q E hr h=>?_)
 ·obtain⟨p,q,a,b,c,d,rfl,_⟩:=h;rfl
 obtain⟨p,p2,a,b,c,d,rfl,h1,h2,l1,l2,q⟩:=h
 refine⟨_,(ϖk (ϖF (ϱf ϛS (ϖu ϑk (ϖo (kIx (K:=K) rIxT ϖl) (pv 0) ϖi (by intro _ _;rfl)) (ϖo (kIx (K:=K) rIxT ϖl) (pv 1) ϖi (by intro _ _;rfl))) (ϖu ϑk (ϖo (kIx (K:=K) rIxT ϖl) (pv 0) ϖi (by intro _ _;rfl)) (ϖo (kIx (K:=K) rIxT ϖl) (pv 1) ϖi (by intro _ _;rfl))) (ϖY _)))),?_⟩
 refine⟨_,rfl,_,_,_,_,rfl,rfl,h1,rfl,_,rfl,_,_,_,_,rfl,rfl,h2,rfl,_,_,rfl,rfl,szl (by omega),_,rfl,_,_,_,_,rfl,rfl,h1,rfl,_,rfl,_,_,_,_,rfl,rfl,h2,rfl,_,_,rfl,rfl,szl (by omega),rfl,?_⟩
 have e:(!decide (V.str (a++c)=V.str (b++d)))=!decide (a++c=b++d):=by
  congr 1
  exact decide_eq_decide.mpr ⟨fun z=>by injection z,fun z=>by rw[z]⟩
 show Q (.bl (!decide (V.str (a++c)=V.str (b++d)))) H
 rw[e]
 exact q
theorem sc_way_apart_by_begin:FnScope ["double","behind","words","place","begin","pair"] ["double","behind"] (ϖj ϖV):=⟨rfl,rfl,rfl,by decide +kernel,rfl,by decide +kernel,by decide +kernel⟩
theorem ϰj (B:Bi mg) {ϖc ϖg:Addr} (XB:Xb K mg ϖc ϖg) (ϑv:Cal P w K mg base "words_behind" ["double","behind"] 2 (spWB K)) (ϑs:Cal P w K mg base "are_apart" ["ahead","behind"] 1 (spAp K)) (ϑG:Cal P w K mg base "trail_of" ["room","traces","steps","near"] 1 (ϟn K)) {f:Addr}{fd:FuncData} (F:Fun K "way_apart_by_begin" "way_apart_by_begin" ϖV f fd):FnOk P w K mg base CX0 3 f fd ["double","behind"] (ϛt K):=by
 refine F.ok sc_way_apart_by_begin (fun vs H Q E h=>?_) (fun cdv A outer s H vs Q E hr h=>?_)
 ·obtain⟨N,v,g,R,Bm,S,Em,pb,ps,pe,d,T,rfl,_⟩:=h;rfl
 obtain⟨N,v,g,R,Bm,S,Em,pb,ps,pe,d,T,rfl,hV,ok,hT,tr,q⟩:=h
 refine⟨_,(ϖf (ϖp (i:=2) sc_way_apart_by_begin.nd rfl (Or.inl rfl) (ϖE ϑv hr (by decide:2≤2) (by rfl) (ϖa (pv 0) (ϖa (pv 1) ϖh))))
   (ϖf (ϑd PassesOwn.never (by rfl) (kPI (K:=K) (fun k=>iEnu k _) (ϵq (by rfl) B.enumerate (ϖa (hs:=ϖA) (ϖo (kIx (K:=K) rIxT ϖl) (pv 0) (ϖm (by rfl) B.BEGINS) (by intro _ _;rfl)) ϖh))) (kPG (K:=K) (fun k=>gTup k 2 _) (ϑr (n:=2) (by rfl) (ϖs (ϖr (i:=3) sc_way_apart_by_begin.nd rfl (Or.inl rfl)) (ϖs (ϖr (i:=4) sc_way_apart_by_begin.nd rfl (Or.inl rfl)) ϖ6)))) (ϖf (ϖp (i:=5) sc_way_apart_by_begin.nd rfl (Or.inl rfl) (ϖo (kIx (K:=K) rIxT ϖl) (pv 4) ϖi (by intro _ _;rfl)))
   (ϖk (ϑx (PW.pt (ϵn (ϵg (ϡk (ϑN hr) (pv 5) (pv 2))) (ϱa (ϡh (ϖE ϑs hr (by decide:1≤2) (by rfl) (ϖa (hs:=ϖA) (ϖo (kIx (K:=K) rIxT ϖl) (pv 4) (ϖm (by rfl) B.WORDS) (by intro _ _;rfl)) (ϖa (hs:=ϖA) (ϑ5 (ϑN hr) (pv 2) (pv 5) (by intro _ _;rfl)) ϖh))))))) (ϖk (ϖF (ϖG (ϖa (pv 3) (ϖa (hs:=ϑ7) (ϖE ϑG hr (by decide:1≤2) (by rfl) (ϖa (pv 5) (ϖa (pv 1) (ϖa (hs:=ϖA) (ϖo (kIx (K:=K) rIxT ϖl) (pv 0) (ϖm (by rfl) B.STEPS) (by intro _ _;rfl)) (ϖa (ϖm (by rfl) B.INTO) ϖh))))) (ϖa (hs:=ϖA) (ϖo (kIx (K:=K) rIxT ϖl) (ϑ5 (ϑN hr) (pv 1) (pv 5) (by intro _ _;rfl)) ϖi (by intro _ _;rfl)) ϖh)))))) ϖN))))
   (ϖk (ϖF ϕH)))),?_⟩
 refine⟨_,rfl,_,rfl,N,v,g,R,Bm,S,Em,pb,ps,pe,d,T,rfl,hV,ok,hT,tr,fun dw H1 g1 hW=>?_⟩
 obtain⟨a,zz,xb,xs,xe,rfl,h1,h2,h3,h4,h5,h6,h7⟩:=id hV
 refine⟨_,rfl,_,_,_,_,rfl,rfl,Same.seqT g1 h1,rfl,pb,rfl,⟨xb,g1.seq h2⟩,?_⟩
 let Iv_1:Nat→L2.St→Hp→Prop:=(fun i σ H'=>Same H1 H'∧i≤xb.length∧(∃ x3 x4 x5,σ=[some (.ref a),some (.ref d),some (.ref dw),x3,x4,x5])∧∀j,j < i→∀y,Bm[j]?=some y→¬ apB Em S T y)
 refine ϕN (xs:=xb) Iv_1 ⟨Same.refl _,Nat.zero_le _,⟨_,_,_,rfl⟩,fun j hj=>absurd hj (Nat.not_lt_zero _)⟩ (fun i σ H' _ z=>(g1.trans z.1).seq h2) (fun b_ r_ hb_ hr_=>?_) ?_
 ·rintro i x p0 σ H2 hx ⟨g2,hi,⟨x3,x4,x5,rfl⟩,hno⟩ hp0
  have nxt:¬ apB Em S T (Bm[i]?.getD (0,(0,0),("","")))→∀j,j < i+1→∀y,Bm[j]?=some y→¬ apB Em S T y:=fun h j hj y hy=>by
   by_cases c:j=i
   ·subst c;rw[hy] at h;exact h
   ·exact hno j (by omega) y hy
  obtain⟨dm,hdm,bb,cc,pp,ww,rfl,q1,q2,q3,q4⟩:=ϖw h5 hx
  rw[hdm] at nxt
  have nxt:¬ apB Em S T dm→_:=nxt
  have hil:i < xb.length:=(List.getElem?_eq_some_iff.mp hx).1
  have gt0:=ϖe hp0 (.tup [V.int i,V.ref bb])
  have et0:=ϖd (H:=H2) (a:=p0) (o:=.tup [V.int i,V.ref bb])
  have g2:=g2.trans gt0
  generalize upd H2 p0 (.tup [V.int i,V.ref bb])=H3 at gt0 et0 g2⊢
  have g03:=g1.trans g2
  have okm:=ok.b dm (List.mem_of_getElem? hdm)
  refine⟨p0,_,rfl,SqT.of et0,rfl,_,_,rfl,_,_,rfl,rfl,?_⟩
  refine⟨_,rfl,_,_,_,_,rfl,rfl,Same.seqT g03 q1,rfl,?_⟩
  obtain⟨kw,ew,hw⟩:=hW.mono g2
  have hcc:=g03 _ _ q2
  refine⟨_,rfl,_,rfl,dw,_,rfl,DGet.t (k:=keyR N dm.1) ew hcc,_,rfl,?_⟩
  by_cases c:dm.1∈ϖx T
  ·obtain⟨tw,wa,wb,hvw,htw,la,lb,hwp⟩:=ϱE hw c
   have hap:apB Em S T dm↔¬ (dm.2.2.1++wa=dm.2.2.2++wb):=⟨fun⟨x,y,z,h⟩=>by obtain⟨e1,e2⟩:=WdB.det tr.ti.nd z hwp;rw[← e1,← e2];exact h,fun h=>⟨wa,wb,hwp,h⟩⟩
   rw[hvw]
   refine iteT ?_
   refine⟨_,rfl,_,_,_,_,rfl,rfl,Same.seqT g03 q1,rfl,_,rfl,_,rfl,dw,_,rfl,hvw▸DGet.t (k:=keyR N dm.1) ew hcc,ww,tw,dm.2.2.1,dm.2.2.2,wa,wb,rfl,Same.seqT g03 q4,htw,by have:=okm.2.2.1;omega,by have:=okm.2.2.2;omega,_,rfl,?_⟩
   refine iteX (nd_iff.trans hap.symm) (fun hyes=>?_) (fun hn=>⟨g2,hil,⟨_,_,_,rfl⟩,nxt hn⟩)
   obtain⟨ti,e,tt,hi2,he1,hg,htt⟩:=ϰQ (hT.mono g03) c hcc
   refine⟨_,rfl,_,rfl,_,rfl,_,rfl,_,_,_,_,rfl,rfl,Same.seqT g03 h1,rfl,N,cc,d,ps,3,0,R,T,Em.map mE,S.map sE,dm.1,rfl,.inr rfl,⟨xs,g03.seq h3,ϑS (f:=sE) (fun _ _ h=>(h.gt (GT.of g03) (TS.of g03)).g) h6⟩,hT.mono g03,tr,ok.r9,hcc,c,fun lt H4 qs g4 hlt elt hqs lqs htrl=>?_⟩
   obtain⟨ti,e,tt,hi2,he1,hg,htt⟩:=ϰQ ((hT.mono g03).mono g4) c (g4 _ _ hcc)
   refine⟨_,rfl,_,rfl,d,_,rfl,hg,_,_,_,_,rfl,rfl,htt,rfl,(by show 3≤sizeLine;decide),fun t ht=>?_⟩
   have gt:=ϖe ht (.tup [V.int i,V.ref lt,V.int (e.2.1:Int)])
   have hin:=ϟT tr (ti+1) ti e (by omega) hi2
   rw[List.length_map] at hin
   rw[List.length_map] at hqs
   show r_ _ _
   rw[hr_]
   exact q _ _ (some (i,qs,e.2.1)) ((g03.trans g4).trans gt) ⟨dm,⟨hdm,hyes,hno⟩,htrl,ti,e,hi2,he1,rfl⟩ (.inr ⟨t,lt,i,e.2.1,qs,rfl,rfl,SqT.of ϖd,gt _ _ elt,by rw[h5.length];exact hil,hin,hqs,by omega⟩)
  ·rw[ϰJ hw c]
   refine iteF ⟨g2,hil,⟨_,_,_,rfl⟩,nxt ?_⟩
   rintro⟨x,y,z,_⟩
   exact c (WdB.key z)
 rintro σ H2 ⟨g2,_,⟨x3,x4,x5,rfl⟩,hno⟩
 refine q _ _ none (g1.trans g2) (fun b hb=>?_) (.inl ⟨rfl,rfl⟩)
 obtain⟨j,hj⟩:=List.getElem?_of_mem hb
 exact hno j (by rw[← h5.length];exact(List.getElem?_eq_some_iff.mp hj).1) b hj
theorem ϰS:FnScope ["pair","ahead","double"] ["pair","ahead","double"] (ϖj ϖ_):=⟨rfl,rfl,rfl,by decide +kernel,rfl,by decide +kernel,by decide +kernel⟩
theorem ϰO (B:Bi mg) {ϖc ϖg:Addr} (XB:Xb K mg ϖc ϖg) (ϑG:Cal P w K mg base "trail_of" ["room","traces","steps","near"] 1 (ϟn K)) {f:Addr}{fd:FuncData} (F:Fun K "trail_from_begin" "trail_from_begin" ϖ_ f fd):FnOk P w K mg base CX0 2 f fd ["pair","ahead","double"] (ϝG K):=by
 refine F.ok ϰS (fun vs H Q E h=>?_) (fun cdv A outer s H vs Q E hr h=>?_)
 ·obtain⟨N,v,g,R,Bm,S,Em,pb,ps,pe,d,T,rb,r,rfl,_⟩:=h;rfl
 obtain⟨N,v,g,R,Bm,S,Em,pb,ps,pe,d,T,rb,r,rfl,hV,ok,hT,tr,hrb,hrT,q⟩:=h
 refine⟨_,(ϖk (ϖF (ϡP (by rfl) (by rfl) B.list (by rfl) B.reversed (ϖE ϑG hr (by decide:1≤1) (by rfl) (ϖa (pv 0) (ϖa (pv 1) (ϖa (hs:=ϖA) (ϖo (kIx (K:=K) rIxT ϖl) (pv 2) (ϖm (by rfl) B.STEPS) (by intro _ _;rfl)) (ϖa (ϖm (by rfl) B.OUT_OF) ϖh)))))))),?_⟩
 obtain⟨a,zz,xb,xs,xe,rfl,h1,h2,h3,h4,h5,h6,h7⟩:=id hV
 refine⟨_,rfl,_,rfl,_,rfl,_,_,_,_,rfl,rfl,h1,rfl,N,rb,d,ps,0,3,R,T,Bm.map mE,S.map sE,r,rfl,.inl rfl,⟨xs,h3,ϑS (f:=sE) (fun _ _=>DsV.g) h6⟩,hT,tr,ok.r9,hrb,hrT,fun lt H1 qs g1 hlt elt hqs lqs htrl=>?_⟩
 rw[List.length_map] at hqs
 refine⟨lt,_,rfl,elt,fun p hp=>?_⟩
 exact q p _ qs.reverse (g1.trans (ϖe hp _)) (g1.free hp) (by rw[ϖd,List.map_reverse]) (fun x hx=>hqs x (List.mem_reverse.mp hx)) (by rw[List.length_reverse];exact lqs) (by rw[List.reverse_reverse];exact htrl)
theorem sc_way_apart_by_step:FnScope ["double","ahead","behind","first_words","last_words","place","step","start","goal","row"] ["double","ahead","behind"] (ϖj ϖ1):=⟨rfl,rfl,rfl,by decide +kernel,rfl,by decide +kernel,by decide +kernel⟩
theorem ϰD (B:Bi mg) {ϖc ϖg:Addr} (XB:Xb K mg ϖc ϖg) (ϑE:Cal P w K mg base "words_ahead" ["double","ahead"] 2 (spWA K)) (ϑv:Cal P w K mg base "words_behind" ["double","behind"] 2 (spWB K)) (ϑs:Cal P w K mg base "are_apart" ["ahead","behind"] 1 (spAp K)) (ϖC:Cal P w K mg base "behind_one_another" ["ahead","behind"] 1 (spB1 K)) (ϖ9:Cal P w K mg base "trail_from_begin" ["pair","ahead","double"] 2 (ϝG K)) (ϑG:Cal P w K mg base "trail_of" ["room","traces","steps","near"] 1 (ϟn K)) {f:Addr}{fd:FuncData} (F:Fun K "way_apart_by_step" "way_apart_by_step" ϖ1 f fd):FnOk P w K mg base CX0 3 f fd ["double","ahead","behind"] (ϛ_ K):=by
 refine F.ok sc_way_apart_by_step (fun vs H Q E h=>?_) (fun cdv A outer s H vs Q E hr h=>?_)
 ·obtain⟨N,v,g,R,Bm,S,Em,pb,ps,pe,d,T,d2,T2,rfl,_⟩:=h;rfl
 obtain⟨N,v,g,R,Bm,S,Em,pb,ps,pe,d,T,d2,T2,rfl,hV,ok,hT,tr,hT2,tr2,q⟩:=h
 refine⟨_,(ϖf (ϖp (i:=3) sc_way_apart_by_step.nd rfl (Or.inl rfl) (ϖE ϑE hr (by decide:2≤2) (by rfl) (ϖa (pv 0) (ϖa (pv 1) ϖh))))
   (ϖf (ϖp (i:=4) sc_way_apart_by_step.nd rfl (Or.inl rfl) (ϖE ϑv hr (by decide:2≤2) (by rfl) (ϖa (pv 0) (ϖa (pv 2) ϖh))))
   (ϖf (ϑd PassesOwn.never (by rfl) (kPI (K:=K) (fun k=>iEnu k _) (ϵq (by rfl) B.enumerate (ϖa (hs:=ϖA) (ϖo (kIx (K:=K) rIxT ϖl) (pv 0) (ϖm (by rfl) B.STEPS) (by intro _ _;rfl)) ϖh))) (kPG (K:=K) (fun k=>gTup k 2 _) (ϑr (n:=2) (by rfl) (ϖs (ϖr (i:=5) sc_way_apart_by_step.nd rfl (Or.inl rfl)) (ϖs (ϖr (i:=6) sc_way_apart_by_step.nd rfl (Or.inl rfl)) ϖ6)))) (ϖf (ϖp (i:=7) sc_way_apart_by_step.nd rfl (Or.inl rfl) (ϖo (kIx (K:=K) rIxT ϖl) (pv 6) (ϖm (by rfl) B.OUT_OF) (by intro _ _;rfl)))
   (ϖf (ϖp (i:=8) sc_way_apart_by_step.nd rfl (Or.inl rfl) (ϖo (kIx (K:=K) rIxT ϖl) (pv 6) (ϖm (by rfl) B.INTO) (by intro _ _;rfl)))
   (ϖk (ϑx (PW.pt (ϵn (ϵg (ϡk (ϑN hr) (pv 7) (pv 3))) (ϱa (ϵg (ϡk (ϑN hr) (pv 8) (pv 4)))))) (ϖk (ϑx (ϡh (ϖE ϑs hr (by decide:1≤2) (by rfl) (ϖa (hs:=ϑ7) (ϖE ϖC hr (by decide:1≤2) (by rfl) (ϖa (hs:=ϖA) (ϑ5 (ϑN hr) (pv 3) (pv 7) (by intro _ _;rfl)) (ϖa (hs:=ϖA) (ϖo (kIx (K:=K) rIxT ϖl) (pv 6) (ϖm (by rfl) B.WORDS) (by intro _ _;rfl)) ϖh))) (ϖa (hs:=ϖA) (ϑ5 (ϑN hr) (pv 4) (pv 8) (by intro _ _;rfl)) ϖh)))) (ϖf (ϖp (i:=9) sc_way_apart_by_step.nd rfl (Or.inl rfl) (ϖu ϝS (ϖE ϖ9 hr (by decide:2≤2) (by rfl) (ϖa (pv 7) (ϖa (pv 1) (ϖa (pv 0) ϖh)))) (ϑa (ϖa (pv 5) ϖh))))
   (ϖk (ϖF (ϖG (ϖa (hs:=ϖA) (ϖo (kIx (K:=K) rIxT ϖl) (ϑ5 (ϑN hr) (pv 1) (pv 7) (by intro _ _;rfl)) ϖi (by intro _ _;rfl)) (ϖa (hs:=ϑK) (ϖu ϝS (pv 9) (ϖE ϑG hr (by decide:1≤2) (by rfl) (ϖa (pv 8) (ϖa (pv 2) (ϖa (hs:=ϖA) (ϖo (kIx (K:=K) rIxT ϖl) (pv 0) (ϖm (by rfl) B.STEPS) (by intro _ _;rfl)) (ϖa (ϖm (by rfl) B.INTO) ϖh)))))) (ϖa (hs:=ϖA) (ϖo (kIx (K:=K) rIxT ϖl) (ϑ5 (ϑN hr) (pv 2) (pv 8) (by intro _ _;rfl)) ϖi (by intro _ _;rfl)) ϖh))))))) ϖN)) ϖN)))))
   (ϖk (ϖF ϕH))))),?_⟩
 refine⟨_,rfl,_,rfl,N,v,g,R,Bm,S,Em,pb,ps,pe,d,T,rfl,hV,ok,hT,tr,fun dw H1 g1 hW=>?_⟩
 refine⟨_,rfl,_,rfl,N,v,g,R,Bm,S,Em,pb,ps,pe,d2,T2,rfl,hV.mono g1,ok,hT2.mono g1,tr2,fun du H1' g1' hU=>?_⟩
 have hW:=hW.mono g1'
 have g1:=g1.trans g1'
 obtain⟨a,zz,xb,xs,xe,rfl,h1,h2,h3,h4,h5,h6,h7⟩:=id hV
 refine⟨_,rfl,_,_,_,_,rfl,rfl,Same.seqT g1 h1,rfl,ps,rfl,⟨xs,g1.seq h3⟩,?_⟩
 let Iv_1:Nat→L2.St→Hp→Prop:=(fun i σ H'=>Same H1' H'∧i≤xs.length∧(∃ x5 x6 x7 x8,σ=[some (.ref a),some (.ref d),some (.ref d2),some (.ref dw),some (.ref du),x5,x6,x7,x8,none])∧∀j,j < i→∀y,S[j]?=some y→¬ apS Bm Em S T T2 y)
 refine ϕN (xs:=xs) Iv_1 ⟨Same.refl _,Nat.zero_le _,⟨_,_,_,_,rfl⟩,fun j hj=>absurd hj (Nat.not_lt_zero _)⟩ (fun i σ H' _ z=>(g1.trans z.1).seq h3) (fun b_ r_ hb_ hr_=>?_) ?_
 ·rintro i x p0 σ H2 hx ⟨g2,hi,⟨x5,x6,x7,x8,rfl⟩,hno⟩ hp0
  have nxt:¬ apS Bm Em S T T2 (S[i]?.getD (0,(0,0),("",""),0))→∀j,j < i+1→∀y,S[j]?=some y→¬ apS Bm Em S T T2 y:=fun h j hj y hy=>by
   by_cases c:j=i
   ·subst c;rw[hy] at h;exact h
   ·exact hno j (by omega) y hy
  obtain⟨ds,hds,bb,cc,pp,sw,ee,rfl,q1,q2,q3,q4,q5⟩:=ϖw h6 hx
  rw[hds] at nxt
  have nxt:¬ apS Bm Em S T T2 ds→_:=nxt
  have hil:i < xs.length:=(List.getElem?_eq_some_iff.mp hx).1
  have gt0:=ϖe hp0 (.tup [V.int i,V.ref bb])
  have et0:=ϖd (H:=H2) (a:=p0) (o:=.tup [V.int i,V.ref bb])
  have g2:=g2.trans gt0
  generalize upd H2 p0 (.tup [V.int i,V.ref bb])=H3 at gt0 et0 g2⊢
  have g03:=g1.trans g2
  have okd:=ok.s ds (List.mem_of_getElem? hds)
  have t3:=Same.seqT g03 q1
  refine⟨p0,_,rfl,SqT.of et0,rfl,_,_,rfl,_,_,rfl,rfl,?_⟩
  refine⟨_,rfl,_,_,_,_,rfl,rfl,t3,rfl,?_⟩
  refine⟨_,rfl,_,_,_,_,rfl,rfl,t3,rfl,?_⟩
  obtain⟨kw,ew,hw⟩:=hW.mono g2
  obtain⟨ku,eu,hu⟩:=hU.mono g2
  have hcc:=g03 _ _ q2
  have hee:=g03 _ _ q5
  refine⟨_,rfl,_,rfl,dw,_,rfl,DGet.t (k:=keyR N ds.1) ew hcc,_,rfl,?_⟩
  by_cases c:ds.1∈ϖx T
  rotate_left
  ·rw[ϰJ hw c]
   refine iteF ⟨g2,hil,⟨_,_,_,_,rfl⟩,nxt ?_⟩
   rintro⟨x,y,u,w,z,_⟩
   exact c (WdA.key z)
  obtain⟨tw,wa,wb,hvw,htw,la,lb,hwp⟩:=ϱE hw c
  rw[hvw]
  refine iteT ?_
  refine⟨_,rfl,_,rfl,du,_,rfl,DGet.t (k:=keyR N ds.2.2.2) eu hee,_,rfl,?_⟩
  by_cases c2:ds.2.2.2∈ϖx T2
  rotate_left
  ·rw[ϰJ hu c2]
   refine iteF ⟨g2,hil,⟨_,_,_,_,rfl⟩,nxt ?_⟩
   rintro⟨x,y,u,w,_,z,_⟩
   exact c2 (WdB.key z)
  obtain⟨tu,ua,ub,hvu,htu,la2,lb2,hup⟩:=ϱE hu c2
  have hap:apS Bm Em S T T2 ds↔¬ (wa++ds.2.2.1.1++ua=wb++ds.2.2.1.2++ub):=⟨fun⟨x,y,u,v,z,z2,h⟩=>by obtain⟨e1,e2⟩:=WdA.det tr.ti.nd z hwp;obtain⟨e3,e4⟩:=WdB.det tr2.ti.nd z2 hup;rw[← e1,← e2,← e3,← e4];exact h,fun h=>⟨wa,wb,ua,ub,hwp,hup,h⟩⟩
  rw[hvu]
  refine iteT ?_
  refine⟨_,rfl,_,rfl,dw,_,rfl,hvw▸DGet.t (k:=keyR N ds.1) ew hcc,_,rfl,_,_,_,_,rfl,rfl,t3,rfl,tw,sw,wa,wb,ds.2.2.1.1,ds.2.2.1.2,rfl,htw,Same.seqT g03 q4,by have:=okd.2.2.1;omega,by have:=okd.2.2.2.1;omega,fun tj H4 g4 ej=>?_⟩
  refine⟨_,rfl,_,rfl,du,_,rfl,hvu▸DGet.t (k:=keyR N ds.2.2.2) (g4 _ _ eu) (g4 _ _ hee),tj,tu,_,_,ua,ub,rfl,SqT.of ej,Same.seqT g4 htu,by rw[ϑi];have:=okd.2.2.1;omega,by rw[ϑi];have:=okd.2.2.2.1;omega,_,rfl,?_⟩
  have g04:=g03.trans g4
  refine iteX (nd_iff.trans hap.symm) (fun hyes=>?_) (fun hn=>⟨g2.trans g4,hil,⟨_,_,_,_,rfl⟩,nxt hn⟩)
  have hcc:=g4 _ _ hcc
  have hee:=g4 _ _ hee
  refine⟨_,rfl,_,rfl,_,rfl,N,_,g,R,Bm,S,Em,pb,ps,pe,d,T,cc,ds.1,rfl,hV.mono g04,ok,hT.mono g04,tr,hcc,c,fun lt H5 qs g5 hlt elt hqs lqs htrl=>?_⟩
  refine⟨_,rfl,szl (by simp),fun l1 hl1=>?_⟩
  have k1:=ϖe hl1 (.lst [V.int i])
  refine⟨lt,l1,_,_,rfl,rfl,k1 _ _ elt,ϖd,szl (by rw[List.length_map];show qs.length+1≤_;omega),fun l2 hl2=>?_⟩
  have k2:=ϖe hl2 (.lst (qs.map qV++[V.int i]))
  have e2:=ϖd (H:=upd H5 l1 (.lst [V.int i])) (a:=l2) (o:=.lst (qs.map qV++[V.int i]))
  have g05:=((g04.trans g5).trans k1).trans k2
  have g25:=((g5.trans k1).trans k2)
  generalize upd (upd H5 l1 (.lst [V.int i])) l2 (.lst (qs.map qV++[V.int i]))=H6 at e2 g05 g25⊢
  have hcc:=g25 _ _ hcc
  have hee:=g25 _ _ hee
  obtain⟨ti,e,tt,hi2,he1,hg,htt⟩:=ϰQ (hT.mono g05) c hcc
  refine⟨_,rfl,_,rfl,d,_,rfl,hg,_,_,_,_,rfl,rfl,htt,rfl,_,rfl,_,rfl,_,rfl,_,rfl,_,_,_,_,rfl,rfl,Same.seqT g05 h1,rfl,N,ee,d2,ps,3,0,R,T2,Em.map mE,S.map sE,ds.2.2.2,rfl,.inr rfl,⟨xs,g05.seq h3,ϑS (f:=sE) (fun _ _ h=>(h.gt (GT.of g05) (TS.of g05)).g) h6⟩,hT2.mono g05,tr2,ok.r9,hee,c2,fun lv H7 ps7 g7 hlv elv hps lps htrl2=>?_⟩
  refine⟨l2,lv,_,_,rfl,rfl,g7 _ _ e2,elv,szl (by rw[List.length_append,List.length_map,List.length_map];show qs.length+1+ps7.length≤_;omega),fun l3 hl3=>?_⟩
  have k3:=ϖe hl3 (.lst (qs.map qV++[V.int i]++ps7.map qV))
  have e3:=ϖd (H:=H7) (a:=l3) (o:=.lst (qs.map qV++[V.int i]++ps7.map qV))
  have g08:=(g05.trans g7).trans k3
  have g68:=g7.trans k3
  generalize upd H7 l3 (.lst (qs.map qV++[V.int i]++ps7.map qV))=H8 at e3 g08 g68⊢
  obtain⟨tj2,e',tt2,hi3,he2,hg2,htt2⟩:=ϰQ (hT2.mono g08) c2 (g68 _ _ hee)
  refine⟨_,rfl,_,rfl,d2,_,rfl,hg2,_,_,_,_,rfl,rfl,htt2,rfl,(by show 3≤sizeLine;decide),fun t ht=>?_⟩
  have gt:=ϖe ht (.tup [V.int (e.2.1:Int),V.ref l3,V.int (e'.2.1:Int)])
  have hin:=ϟT tr (ti+1) ti e (by omega) hi2
  have hin2:=ϟT tr2 (tj2+1) tj2 e' (by omega) hi3
  rw[List.length_map] at hin hin2 hps
  show r_ _ _
  rw[hr_]
  refine q _ _ (some (e.2.1,qs++[i]++ps7,e'.2.1)) (g08.trans gt) ⟨ds,i,qs,ps7,⟨hds,hyes,hno⟩,rfl,htrl,htrl2,⟨ti,e,hi2,he1,rfl⟩,tj2,e',hi3,he2,rfl⟩ (.inr ⟨t,l3,e.2.1,e'.2.1,qs++[i]++ps7,rfl,rfl,SqT.of ϖd,?_,hin,hin2,fun x hx=>?_,by rw[List.length_append,List.length_append,List.length_singleton];omega⟩)
  ·rw[gt _ _ e3,List.map_append,List.map_append];rfl
  ·rcases List.mem_append.mp hx with hx|hx
   ·rcases List.mem_append.mp hx with hx|hx
    ·exact hqs x hx
    ·rw[List.mem_singleton.mp hx,h6.length];exact hil
   ·exact hps x hx
 rintro σ H2 ⟨g2,_,⟨x5,x6,x7,x8,rfl⟩,hno⟩
 refine q _ _ none (g1.trans g2) (fun b hb=>?_) (.inl ⟨rfl,rfl⟩)
 obtain⟨j,hj⟩:=List.getElem?_of_mem hb
 exact hno j (by rw[← h6.length];exact(List.getElem?_eq_some_iff.mp hj).1) b hj
theorem sc_way_apart_by_end:FnScope ["double","ahead","words","place","end","pair"] ["double","ahead"] (ϖj ϖ7):=⟨rfl,rfl,rfl,by decide +kernel,rfl,by decide +kernel,by decide +kernel⟩
theorem ϰP (B:Bi mg) {ϖc ϖg:Addr} (XB:Xb K mg ϖc ϖg) (ϑE:Cal P w K mg base "words_ahead" ["double","ahead"] 2 (spWA K)) (ϑs:Cal P w K mg base "are_apart" ["ahead","behind"] 1 (spAp K)) (ϖ9:Cal P w K mg base "trail_from_begin" ["pair","ahead","double"] 2 (ϝG K)) {f:Addr}{fd:FuncData} (F:Fun K "way_apart_by_end" "way_apart_by_end" ϖ7 f fd):FnOk P w K mg base CX0 3 f fd ["double","ahead"] (ϛg K):=by
 refine F.ok sc_way_apart_by_end (fun vs H Q E h=>?_) (fun cdv A outer s H vs Q E hr h=>?_)
 ·obtain⟨N,v,g,R,Bm,S,Em,pb,ps,pe,d,T,rfl,_⟩:=h;rfl
 obtain⟨N,v,g,R,Bm,S,Em,pb,ps,pe,d,T,rfl,hV,ok,hT,tr,q⟩:=h
 refine⟨_,(ϖf (ϖp (i:=2) sc_way_apart_by_end.nd rfl (Or.inl rfl) (ϖE ϑE hr (by decide:2≤2) (by rfl) (ϖa (pv 0) (ϖa (pv 1) ϖh))))
   (ϖf (ϑd PassesOwn.never (by rfl) (kPI (K:=K) (fun k=>iEnu k _) (ϵq (by rfl) B.enumerate (ϖa (hs:=ϖA) (ϖo (kIx (K:=K) rIxT ϖl) (pv 0) (ϖm (by rfl) B.ENDS) (by intro _ _;rfl)) ϖh))) (kPG (K:=K) (fun k=>gTup k 2 _) (ϑr (n:=2) (by rfl) (ϖs (ϖr (i:=3) sc_way_apart_by_end.nd rfl (Or.inl rfl)) (ϖs (ϖr (i:=4) sc_way_apart_by_end.nd rfl (Or.inl rfl)) ϖ6)))) (ϖf (ϖp (i:=5) sc_way_apart_by_end.nd rfl (Or.inl rfl) (ϖo (kIx (K:=K) rIxT ϖl) (pv 4) ϖi (by intro _ _;rfl)))
   (ϖk (ϑx (PW.pt (ϵn (ϵg (ϡk (ϑN hr) (pv 5) (pv 2))) (ϱa (ϡh (ϖE ϑs hr (by decide:1≤2) (by rfl) (ϖa (hs:=ϖA) (ϑ5 (ϑN hr) (pv 2) (pv 5) (by intro _ _;rfl)) (ϖa (hs:=ϖA) (ϖo (kIx (K:=K) rIxT ϖl) (pv 4) (ϖm (by rfl) B.WORDS) (by intro _ _;rfl)) ϖh))))))) (ϖk (ϖF (ϖG (ϖa (hs:=ϖA) (ϖo (kIx (K:=K) rIxT ϖl) (ϑ5 (ϑN hr) (pv 1) (pv 5) (by intro _ _;rfl)) ϖi (by intro _ _;rfl)) (ϖa (hs:=ϑ7) (ϖE ϖ9 hr (by decide:2≤2) (by rfl) (ϖa (pv 5) (ϖa (pv 1) (ϖa (pv 0) ϖh)))) (ϖa (pv 3) ϖh)))))) ϖN))))
   (ϖk (ϖF ϕH)))),?_⟩
 refine⟨_,rfl,_,rfl,N,v,g,R,Bm,S,Em,pb,ps,pe,d,T,rfl,hV,ok,hT,tr,fun dw H1 g1 hW=>?_⟩
 obtain⟨a,zz,xb,xs,xe,rfl,h1,h2,h3,h4,h5,h6,h7⟩:=id hV
 refine⟨_,rfl,_,_,_,_,rfl,rfl,Same.seqT g1 h1,rfl,pe,rfl,⟨xe,g1.seq h4⟩,?_⟩
 let Iv_1:Nat→L2.St→Hp→Prop:=(fun i σ H'=>Same H1 H'∧i≤xe.length∧(∃ x3 x4 x5,σ=[some (.ref a),some (.ref d),some (.ref dw),x3,x4,x5])∧∀j,j < i→∀y,Em[j]?=some y→¬ apE Bm S T y)
 refine ϕN (xs:=xe) Iv_1 ⟨Same.refl _,Nat.zero_le _,⟨_,_,_,rfl⟩,fun j hj=>absurd hj (Nat.not_lt_zero _)⟩ (fun i σ H' _ z=>(g1.trans z.1).seq h4) (fun b_ r_ hb_ hr_=>?_) ?_
 ·rintro i x p0 σ H2 hx ⟨g2,hi,⟨x3,x4,x5,rfl⟩,hno⟩ hp0
  have nxt:¬ apE Bm S T (Em[i]?.getD (0,(0,0),("","")))→∀j,j < i+1→∀y,Em[j]?=some y→¬ apE Bm S T y:=fun h j hj y hy=>by
   by_cases c:j=i
   ·subst c;rw[hy] at h;exact h
   ·exact hno j (by omega) y hy
  obtain⟨dm,hdm,bb,cc,pp,ww,rfl,q1,q2,q3,q4⟩:=ϖw h7 hx
  rw[hdm] at nxt
  have nxt:¬ apE Bm S T dm→_:=nxt
  have hil:i < xe.length:=(List.getElem?_eq_some_iff.mp hx).1
  have gt0:=ϖe hp0 (.tup [V.int i,V.ref bb])
  have et0:=ϖd (H:=H2) (a:=p0) (o:=.tup [V.int i,V.ref bb])
  have g2:=g2.trans gt0
  generalize upd H2 p0 (.tup [V.int i,V.ref bb])=H3 at gt0 et0 g2⊢
  have g03:=g1.trans g2
  have okm:=ok.e dm (List.mem_of_getElem? hdm)
  refine⟨p0,_,rfl,SqT.of et0,rfl,_,_,rfl,_,_,rfl,rfl,?_⟩
  refine⟨_,rfl,_,_,_,_,rfl,rfl,Same.seqT g03 q1,rfl,?_⟩
  obtain⟨kw,ew,hw⟩:=hW.mono g2
  have hcc:=g03 _ _ q2
  refine⟨_,rfl,_,rfl,dw,_,rfl,DGet.t (k:=keyR N dm.1) ew hcc,_,rfl,?_⟩
  by_cases c:dm.1∈ϖx T
  ·obtain⟨tw,wa,wb,hvw,htw,la,lb,hwp⟩:=ϱE hw c
   have hap:apE Bm S T dm↔¬ (wa++dm.2.2.1=wb++dm.2.2.2):=⟨fun⟨x,y,z,h⟩=>by obtain⟨e1,e2⟩:=WdA.det tr.ti.nd z hwp;rw[← e1,← e2];exact h,fun h=>⟨wa,wb,hwp,h⟩⟩
   rw[hvw]
   refine iteT ?_
   refine⟨_,rfl,_,rfl,dw,_,rfl,hvw▸DGet.t (k:=keyR N dm.1) ew hcc,_,rfl,_,_,_,_,rfl,rfl,Same.seqT g03 q1,rfl,tw,ww,wa,wb,dm.2.2.1,dm.2.2.2,rfl,htw,Same.seqT g03 q4,by have:=okm.2.2.1;omega,by have:=okm.2.2.2;omega,_,rfl,?_⟩
   refine iteX (nd_iff.trans hap.symm) (fun hyes=>?_) (fun hn=>⟨g2,hil,⟨_,_,_,rfl⟩,nxt hn⟩)
   obtain⟨ti,e,tt,hi2,he1,hg,htt⟩:=ϰQ (hT.mono g03) c hcc
   refine⟨_,rfl,_,rfl,d,_,rfl,hg,_,_,_,_,rfl,rfl,htt,rfl,_,rfl,_,rfl,_,rfl,N,_,g,R,Bm,S,Em,pb,ps,pe,d,T,cc,dm.1,rfl,hV.mono g03,ok,hT.mono g03,tr,hcc,c,fun lt H4 qs g4 hlt elt hqs lqs htrl=>?_⟩
   refine⟨_,rfl,(by show 3≤sizeLine;decide),fun t ht=>?_⟩
   have gt:=ϖe ht (.tup [V.int (e.2.1:Int),V.ref lt,V.int i])
   have hin:=ϟT tr (ti+1) ti e (by omega) hi2
   rw[List.length_map] at hin
   show r_ _ _
   rw[hr_]
   exact q _ _ (some (e.2.1,qs,i)) ((g03.trans g4).trans gt) ⟨dm,⟨hdm,hyes,hno⟩,htrl,ti,e,hi2,he1,rfl⟩ (.inr ⟨t,lt,e.2.1,i,qs,rfl,rfl,SqT.of ϖd,gt _ _ elt,hin,by rw[h7.length];exact hil,hqs,by omega⟩)
  ·rw[ϰJ hw c]
   refine iteF ⟨g2,hil,⟨_,_,_,rfl⟩,nxt ?_⟩
   rintro⟨x,y,z,_⟩
   exact c (WdA.key z)
 rintro σ H2 ⟨g2,_,⟨x3,x4,x5,rfl⟩,hno⟩
 refine q _ _ none (g1.trans g2) (fun b hb=>?_) (.inl ⟨rfl,rfl⟩)
 obtain⟨j,hj⟩:=List.getElem?_of_mem hb
 exact hno j (by rw[← h7.length];exact(List.getElem?_eq_some_iff.mp hj).1) b hj
theorem sc_way_apart:FnScope ["double","ahead","behind","way"] ["double"] (ϖj ϕc):=⟨rfl,rfl,rfl,by decide +kernel,rfl,by decide +kernel,by decide +kernel⟩
theorem ϲt (B:Bi mg) {ϖc ϖg:Addr} (XB:Xb K mg ϖc ϖg) (ϑM:Cal P w K mg base "traces_from_begins" ["scribe"] 3 (ϡR K)) (ϕp:Cal P w K mg base "traces_to_ends" ["scribe"] 3 (ϟg K)) (ϑL:Cal P w K mg base "way_apart_by_begin" ["double","behind"] 3 (ϛt K)) (ϑQ:Cal P w K mg base "way_apart_by_step" ["double","ahead","behind"] 3 (ϛ_ K)) (ϑ6:Cal P w K mg base "way_apart_by_end" ["double","ahead"] 3 (ϛg K)) {f:Addr}{fd:FuncData} (F:Fun K "way_apart" "way_apart" ϕc f fd):FnOk P w K mg base CX0 4 f fd ["double"] (spWy K):=by
 refine F.ok sc_way_apart (fun vs H Q E h=>?_) (fun cdv A outer s H vs Q E hr h=>?_)
 ·obtain⟨N,v,g,R,Bm,S,Em,pb,ps,pe,rfl,_⟩:=h;rfl
 obtain⟨N,v,g,R,Bm,S,Em,pb,ps,pe,rfl,hV,ok,q⟩:=h
 refine⟨_,(ϖf (ϖp (i:=1) sc_way_apart.nd rfl (Or.inl rfl) (ϟZ (ϖE ϑM hr (by decide:3≤3) (by rfl) (ϖa (pv 0) ϖh))))
   (ϖf (ϖp (i:=2) sc_way_apart.nd rfl (Or.inl rfl) (ϟZ (ϖE ϕp hr (by decide:3≤3) (by rfl) (ϖa (pv 0) ϖh))))
   (ϖf (ϖp (i:=3) sc_way_apart.nd rfl (Or.inl rfl) (ϖE ϑL hr (by decide:3≤3) (by rfl) (ϖa (pv 0) (ϖa (pv 2) ϖh))))
   (ϕ5 (ϑx (ϖI ϱk (pv 3) ϕH (ϖY _)) (ϖk (ϖp (i:=3) sc_way_apart.nd rfl (Or.inl rfl) (ϖE ϑQ hr (by decide:3≤3) (by rfl) (ϖa (pv 0) (ϖa (pv 1) (ϖa (pv 2) ϖh)))))) ϖN)
   (ϕ5 (ϑx (ϖI ϱk (pv 3) ϕH (ϖY _)) (ϖk (ϖp (i:=3) sc_way_apart.nd rfl (Or.inl rfl) (ϖE ϑ6 hr (by decide:3≤3) (by rfl) (ϖa (pv 0) (ϖa (pv 1) ϖh))))) ϖN)
   (ϖk (ϖF (pv 3)))))))),?_⟩
 refine⟨_,rfl,N,v,dbS g R Bm S Em,pb,ps,pe,rfl,hV.g,ok.r,fun d T H1 g1 hd ⟨kvs,ed,hp⟩ tr=>⟨d,kvs,rfl,ed,fun o=>?_⟩⟩
 have tr:TrOk (Bm.map mE) (S.map sE) 0 3 R T:=tr
 have g2:=ϖv (o:=.frz o (.dT kvs)) g1 hd
 have gt:=ϕQ ed (fun _ z=>nomatch z) (fun _ _ z=>nomatch z) (.frz o (.dT kvs))
 have hT:TrF N K (upd H1 d (.frz o (.dT kvs))) d T:=⟨o,kvs,ϖd,ϖb (fun _ _=>EnVP.gt gt) hp⟩
 generalize upd H1 d (.frz o (.dT kvs))=H2 at g2 hT⊢
 refine⟨_,rfl,N,v,dbS g R Bm S Em,pb,ps,pe,rfl,(hV.mono g2).g,ok.r,fun d2 T2 H3 g3 hd2 ⟨kvs2,ed2,hp2⟩ tr2=>⟨d2,kvs2,rfl,ed2,fun o2=>?_⟩⟩
 have tr2:TrOk (Em.map mE) (S.map sE) 3 0 R T2:=tr2
 have g4:=ϖv (o:=.frz o2 (.dT kvs2)) g3 hd2
 have gt2:=ϕQ ed2 (fun _ z=>nomatch z) (fun _ _ z=>nomatch z) (.frz o2 (.dT kvs2))
 have hT2:TrF N K (upd H3 d2 (.frz o2 (.dT kvs2))) d2 T2:=⟨o2,kvs2,ϖd,ϖb (fun _ _=>EnVP.gt gt2) hp2⟩
 generalize upd H3 d2 (.frz o2 (.dT kvs2))=H4 at g4 hT2⊢
 have hT:=hT.mono g4
 have g04:=g2.trans g4
 refine⟨_,rfl,_,rfl,N,v,g,R,Bm,S,Em,pb,ps,pe,d2,T2,rfl,hV.mono g04,ok,hT2,tr2,fun w H5 o1 g5 hB hw=>?_⟩
 let Jv_1:L2.St→Hp→Prop:=fun σ' H'=>∃w o2,σ'=[some v,some (.ref d),some (.ref d2),some w]∧Same H4 H'∧WbV K H' Bm.length S.length Em.length o2 w∧((o1≠none∧o2=o1)∨(o1=none∧WayS Bm Em T T2 S o2))
 refine⟨Jv_1,?_,?_⟩
 ·refine⟨_,rfl,rfl,_,rfl,ϕx (fun c=>?_) (fun c=>⟨w,o1,rfl,g5,hw,.inl ⟨fun z=>c (hw.non.mpr z),rfl⟩⟩)⟩
  exact⟨_,rfl,_,rfl,_,rfl,N,v,g,R,Bm,S,Em,pb,ps,pe,d,T,d2,T2,rfl,hV.mono (g04.trans g5),ok,hT.mono g5,tr,hT2.mono g5,tr2,fun w2 H6 o2 g6 hS2 hw2=>⟨w2,o2,rfl,g5.trans g6,hw2,.inr ⟨hw.non.mp c,hS2⟩⟩⟩
 rintro _ H6 ⟨w2,o2,rfl,g6,hw2,hcase⟩
 refine⟨fun σ' H'=>∃w o,σ'=[some v,some (.ref d),some (.ref d2),some w]∧Same H4 H'∧WbV K H' Bm.length S.length Em.length o w∧Way Bm Em S T T2 o,?_,?_⟩
 ·refine⟨_,rfl,rfl,_,rfl,ϕx (fun c=>?_) (fun c=>⟨w2,o2,rfl,g6,hw2,o1,hB,?_,fun z=>?_⟩)⟩
  ·refine⟨_,rfl,_,rfl,N,v,g,R,Bm,S,Em,pb,ps,pe,d,T,rfl,hV.mono (g04.trans g6),ok,hT.mono g6,tr,fun w3 H7 o3 g7 hE3 hw3=>⟨w3,o3,rfl,g6.trans g7,hw3,?_⟩⟩
   have n2:=hw2.non.mp c
   rcases hcase with⟨z1,z2⟩|⟨z1,z2⟩
   ·exact absurd (z2.symm.trans n2) z1
   ·exact⟨o1,hB,fun z=>absurd z1 z,fun _=>⟨o2,z2,fun z=>absurd n2 z,fun _=>hE3⟩⟩
  ·intro z
   rcases hcase with⟨_,z2⟩|⟨z1,_⟩
   ·exact z2
   ·exact absurd z1 z
  ·rcases hcase with⟨z1,_⟩|⟨_,z2⟩
   ·exact absurd z z1
   ·exact⟨o2,z2,fun _=>rfl,fun y=>absurd (hw2.non.mpr y) c⟩
 rintro _ H7 ⟨w3,o3,rfl,g7,hw3,hW⟩
 exact⟨_,rfl,q w3 H7 o3 T T2 (g04.trans g7) tr tr2 hW hw3⟩
theorem sc_single_way:FnScope ["double","way","which","row"] ["double","way","which"] (ϖj ϑU):=⟨rfl,rfl,rfl,by decide +kernel,rfl,by decide +kernel,by decide +kernel⟩
theorem ϵz (B:Bi mg) {ϖc ϖg:Addr} (XB:Xb K mg ϖc ϖg)  {f:Addr}{fd:FuncData} (F:Fun K "single_way" "single_way" ϑU f fd):FnOk P w K mg base CX0 1 f fd ["double","way","which"] (spSg K):=by
 refine F.ok sc_single_way (fun vs H Q E h=>?_) (fun cdv A outer s H vs Q E hr h=>?_)
 ·obtain⟨N,v,g,Bm,S,Em,pb,ps,pe,w,c,wy,rfl,_⟩:=h;rfl
 obtain⟨N,v,g,Bm,S,Em,pb,ps,pe,w,c,wy,rfl,hc,hV,hW,q⟩:=h
 refine⟨_,(ϖf (ϕF (i:=3) sc_single_way.nd rfl (Or.inl rfl) (by rfl) (by rfl) (ϕs (N':=["place","which","double"]) (js:=[none,some 2,some 0]) rfl (by decide +kernel) rfl (by decide +kernel) rfl rfl) (kPI (K:=K) (fun k=>ϑ3 k _) (ϖZ (ϖo (kIx (K:=K) rIxT ϖl) (pv 1) ϖi (by intro _ _;rfl)))) (fun _ _ _ _ _=>(ϖr (i:=0) (show List.Nodup (["place","which","double"]:List Str) by decide +kernel) rfl (Or.inl rfl))) (fun _ _ _ _ _=>ϕr) (fun _ _ _ _ _=>(ϖo (kIx (K:=K) rIxT ϖl) (ϖo (kIx (K:=K) rIxT ϖl) (ϖo (kIx (K:=K) rIxL ϖD) (ϖo (kIx (K:=K) rIxT ϖl) (pv 2) (ϖm (by rfl) B.STEPS) (by intro _ _;rfl)) (pv 0) (by intro _ _;rfl)) (ϖm (by rfl) B.PLACES) (by intro _ _;rfl)) (pv 1) (by intro _ _;rfl))))
   (ϖk (ϖF (ϖG (ϖa (hs:=ϖA) (ϖo (kIx (K:=K) rIxT ϖl) (ϖo (kIx (K:=K) rIxT ϖl) (ϖo (kIx (K:=K) rIxL ϖD) (ϖo (kIx (K:=K) rIxT ϖl) (pv 0) (ϖm (by rfl) B.BEGINS) (by intro _ _;rfl)) (ϖo (kIx (K:=K) rIxT ϖl) (pv 1) ϖi (by intro _ _;rfl)) (by intro _ _;rfl)) (ϖm (by rfl) B.PLACES) (by intro _ _;rfl)) (pv 2) (by intro _ _;rfl)) (ϖa (pv 3) (ϖa (hs:=ϖA) (ϖo (kIx (K:=K) rIxT ϖl) (ϖo (kIx (K:=K) rIxT ϖl) (ϖo (kIx (K:=K) rIxL ϖD) (ϖo (kIx (K:=K) rIxT ϖl) (pv 0) (ϖm (by rfl) B.ENDS) (by intro _ _;rfl)) (ϖo (kIx (K:=K) rIxT ϖl) (pv 1) ϖi (by intro _ _;rfl)) (by intro _ _;rfl)) (ϖm (by rfl) B.PLACES) (by intro _ _;rfl)) (pv 2) (by intro _ _;rfl)) ϖh))))))),?_⟩
 rcases hW with⟨z,_⟩|⟨b,l,i,j,qs,ew,rfl,hb,hl,hi,hj,hqs,lqs⟩
 ·cases z
 injection ew with ew
 subst ew
 obtain⟨a,zz,xb,xs,xe,rfl,h1,h2,h3,h4,h5,h6,h7⟩:=id hV
 refine⟨_,rfl,_,_,_,_,rfl,rfl,hb,rfl,l,rfl,⟨_,SqL.of hl⟩,?_⟩
 refine ϑt (xs:=qs.map qV) (fun n ys τ H'=>H=H'∧(∃ x,τ=[x,some (.int c),some (.ref a)])∧n≤qs.length∧ys=((qs.take n).map (fun q=>prj c (tA S q).2.1)).map qV) ⟨rfl,⟨_,rfl⟩,Nat.zero_le _,rfl⟩ (fun n ys τ H' z=>z.1▸SqL.of hl) ?_ ?_
 ·rintro n x ys τ _ hx ⟨rfl,⟨x0,rfl⟩,hn,hys⟩
  rw[List.getElem?_map] at hx
  obtain⟨o,ho,rfl⟩:=Option.map_eq_some_iff.mp hx
  have hnl:n < qs.length:=(List.getElem?_eq_some_iff.mp ho).1
  have hoS:=hqs o (List.mem_of_getElem? ho)
  obtain⟨v1,hv1,b1,c1,p1,w1,e1,rfl,z1,z2,z3,z4,z5⟩:=ϖM h6 (List.getElem?_eq_getElem hoS)
  have hm:=at01 hc S[o].2.1.1 S[o].2.1.2
  refine⟨_,rfl,_,_,_,_,rfl,rfl,h1,rfl,_,rfl,_,_,_,_,rfl,rfl,h3,ϖQ hv1,_,_,_,_,rfl,rfl,z1,rfl,_,rfl,_,_,_,_,rfl,rfl,z3,hm,szl' (by rw[hys,List.length_map,List.length_map,List.length_take];omega),rfl,⟨_,rfl⟩,hnl,?_⟩
  rw[hys,ϖz ho,List.map_append,List.map_append,List.map_cons,List.map_nil,← tA_get hoS];rfl
 rintro ys τ _ ⟨rfl,_,_,hys⟩ lr hlr
 rw[List.length_map,List.take_length] at hys
 have gr:=ϖe hlr (.lst ys)
 obtain⟨v1,hv1,b1,c1,p1,w1,rfl,z1,z2,z3,z4⟩:=ϖM h5 (List.getElem?_eq_getElem hi)
 obtain⟨v2,hv2,b2,c2,p2,w2,rfl,y1,y2,y3,y4⟩:=ϖM h7 (List.getElem?_eq_getElem hj)
 have hm1:=at01 hc Bm[i].2.1.1 Bm[i].2.1.2
 have hm2:=at01 hc Em[j].2.1.1 Em[j].2.1.2
 have t1:=Same.seqT gr h1
 have tb:=Same.seqT gr hb
 refine⟨_,rfl,_,_,_,_,rfl,rfl,t1,rfl,_,rfl,_,_,_,_,rfl,rfl,tb,rfl,_,_,_,_,rfl,rfl,gr.seq h2,ϖQ hv1,_,_,_,_,rfl,rfl,Same.seqT gr z1,rfl,_,rfl,_,_,_,_,rfl,rfl,Same.seqT gr z3,hm1,_,rfl,_,rfl,_,_,_,_,rfl,rfl,t1,rfl,_,rfl,_,_,_,_,rfl,rfl,tb,rfl,_,_,_,_,rfl,rfl,gr.seq h4,ϖQ hv2,_,_,_,_,rfl,rfl,Same.seqT gr y1,rfl,_,rfl,_,_,_,_,rfl,rfl,Same.seqT gr y3,hm2,(by show 3≤sizeLine;decide),fun t ht=>?_⟩
 refine q _ lr _ (gr.trans (ϖe ht _)) hlr ⟨t,rfl,?_,?_⟩
 ·rw[ϖd]
  unfold sgW
  dsimp only
  rw[← ϛe hi,← ϛe hj]
 ·rw[ϖe ht _ _ _ ϖd,hys];rfl
theorem sc_two_ways:FnScope ["scribe","double","way"] ["scribe"] (ϖj ϕE):=⟨rfl,rfl,rfl,by decide +kernel,rfl,by decide +kernel,by decide +kernel⟩
theorem ϲ6 (B:Bi mg) {ϖc ϖg:Addr} (XB:Xb K mg ϖc ϖg) (ϑR:Cal1 P w K mg base "refuse_many_rooms" ["scribe"] 1 (spMR K ϖg)) (ϰn:Cal P w K mg base "doubled_of" ["scribe"] 4 (spDb K)) (ϰR:Cal P w K mg base "way_apart" ["double"] 4 (spWy K)) (ϕO:Cal P w K mg base "single_way" ["double","way","which"] 1 (spSg K)) {f:Addr}{fd:FuncData} (F:Fun K "two_ways" "two_ways" ϕE f fd):FnOk P w K mg base (CX1 P w) 5 f fd ["scribe"] (spTW K ϖg):=by
 refine Fun.ok1 F sc_two_ways (fun vs H Q E h=>?_) (fun cdv A outer s H vs Q E hr h=>?_)
 ·obtain⟨v,s,pb,ps,pe,rfl,_⟩:=h;rfl
 obtain⟨v,s,pb,ps,pe,rfl,hV,ok,sh,lb,ls,le,hsg,r0,q,hE⟩:=h
 refine⟨_,(ϖf (ϑm (ϰG ϑR hr (by decide:1≤4) (by rfl) ϵw (ϖa (pv 0) ϖh)))
   (ϖf (ϖp (i:=1) sc_two_ways.nd rfl (Or.inl rfl) (ϖE ϰn hr (by decide:4≤4) (by rfl) (ϖa (pv 0) ϖh)))
   (ϖf (ϖp (i:=2) sc_two_ways.nd rfl (Or.inl rfl) (ϖE ϰR hr (by decide:4≤4) (by rfl) (ϖa (pv 1) ϖh)))
   (ϖf (ϑx (ϖI ϱk (pv 2) ϕH (ϖY _)) (ϖk (ϖF ϕH)) ϖN)
   (ϖk (ϖF (ϖG (ϖa (hs:=ϑ7) (ϖE ϕO hr (by decide:1≤4) (by rfl) (ϖa (pv 1) (ϖa (pv 2) (ϖa ϖi ϖh)))) (ϖa (hs:=ϑ7) (ϖE ϕO hr (by decide:1≤4) (by rfl) (ϖa (pv 1) (ϖa (pv 2) (ϖa ϖi ϖh)))) ϖh))))))))),?_⟩
 refine⟨_,rfl,v,s,pb,ps,pe,rfl,hV,fun h8=>?_,fun h8=>hE h8⟩
 replace q:=q h8
 refine⟨_,rfl,v,s,pb,ps,pe,rfl,hV,ok,sh,lb,ls,le,hsg,r0,h8,fun vd H1 pb' ps' pe' g1 hD okD=>?_⟩
 refine⟨_,rfl,nOf s,vd,_,nOf s*nOf s,dB s,dS s,dE s,pb',ps',pe',rfl,hD,okD,fun w H2 o T T2 g2 t1 t2 hWay hw=>?_⟩
 have mk:∀o',o'=o.map (fun w=>(sgW 0 (dB s) (dE s) (dS s) w,sgW 1 (dB s) (dE s) (dS s) w))→TwoR s o':=fun o' e=>by
  refine⟨T,T2,o,t1,t2,hWay,fun wy hwy=>?_,e⟩
  rcases hw with⟨z,_⟩|⟨b,l,i,j,qs,ew,_,_,_,hi,hj,hqs,_⟩
  ·rw[z] at hwy;cases hwy
  ·rw[ew] at hwy
   injection hwy with hwy
   subst hwy
   exact⟨hi,hj,hqs⟩
 refine⟨_,rfl,rfl,_,rfl,ϕx (fun c=>q.1 (mk none (by rw[hw.non.mp c];rfl)) _ (g1.trans g2)) (fun c=>?_)⟩
 obtain⟨wy,hwy⟩:∃wy,o=some wy:=by
  cases o with
  |none=>exact absurd (hw.non.mpr rfl) c
  |some wy=>exact⟨wy,rfl⟩
 subst hwy
 refine⟨_,rfl,_,rfl,nOf s,vd,_,dB s,dS s,dE s,pb',ps',pe',w,0,wy,rfl,.inl rfl,hD.mono g2,hw,fun t1' l1 H3 g3 hl1 hw1=>?_⟩
 refine⟨_,rfl,_,rfl,nOf s,vd,_,dB s,dS s,dE s,pb',ps',pe',w,1,wy,rfl,.inr rfl,hD.mono (g2.trans g3),hw.mono g3,fun t2' l2 H4 g4 hl2 hw2=>?_⟩
 refine⟨(by show 2≤sizeLine;decide),fun t ht=>?_⟩
 have gt:=ϖe ht (.tup [t1',t2'])
 have gA:=g1.trans g2
 have hne:l1≠l2:=fun z=>by obtain⟨b,_,_,hb⟩:=hw1;rw[z,hl2] at hb;cases hb
 exact q.2 _ _ (mk _ rfl) t t1' t2' l1 l2 _ (((gA.trans g3).trans g4).trans gt) ϖd (hw1.mono (g4.trans gt)) (hw2.mono gt) (gA.free hl1) ((gA.trans g3).free hl2) hne
theorem sc_each_once:FnScope ["parts","found","part"] ["parts"] (ϖj ϑ8):=⟨rfl,rfl,rfl,by decide +kernel,rfl,by decide +kernel,by decide +kernel⟩
theorem ϲi (B:Bi mg) {ϖc ϖg:Addr} (XB:Xb K mg ϖc ϖg)  {f:Addr}{fd:FuncData} (F:Fun K "each_once" "each_once" ϑ8 f fd):FnOk P w K mg base CX0 1 f fd ["parts"] (ϡl K):=by
 refine F.ok sc_each_once (fun vs H Q E h=>?_) (fun cdv A outer s H vs Q E hr h=>?_)
 ·obtain⟨p,rfl,_⟩:=h;rfl
 obtain⟨p,rfl,h⟩:=h
 refine⟨_,(ϖf (ϖp (i:=1) sc_each_once.nd rfl (Or.inl rfl) (pe_or ϰu ϕ0))
   (ϖf (ϑd PassesOwn.never (by rfl) (kPI (K:=K) (fun k=>ϑ3 k _) (ϖZ (pv 0))) (ϖr (i:=2) sc_each_once.nd rfl (Or.inl rfl)) (ϖk (ϕU (ϑN hr) (pv 1) (pv 2) ϛD rfl)))
   (ϖk (ϖF (ϰr (ϱH (by rfl)) (by rfl) B.list ϱU (ϖa (pv 1) ϖh)))))),?_⟩
 rcases h with⟨ns,hS,hl,q⟩|⟨ys,ks,hS,hP,hl,q⟩
 ·refine .inl fun d hd=>?_
  have g0:=ϖe hd (.dK [])
  refine⟨_,rfl,p,rfl,⟨_,g0.seq hS⟩,?_⟩
  let Iv_1:Nat→L2.St→Hp→Prop:=(fun i σ H'=>Same H H'∧i≤ns.length∧(∃ x,σ=[some (.ref p),some (.ref d),x])∧∃kvs:List (Key×V),H' d=some (.dK kvs)∧kvs.map (·.1)=(ϕl (ns.take i)).map Sum.inl)
  refine ϖ5 (xs:=ns.map V.int) Iv_1
   ⟨g0,Nat.zero_le _,⟨_,rfl⟩,[],ϖd,rfl⟩ (fun i σ H' _ z=>z.1.seq hS) (fun b_ r_ hb_ hr_=>?_) ?_
  ·rintro i x σ H1 hx ⟨g1,hi,⟨x2,rfl⟩,kvs,hkd,hkk⟩
   rw[List.getElem?_map] at hx
   obtain⟨n,hn,rfl⟩:=Option.map_eq_some_iff.mp hx
   have hil:i < ns.length:=(List.getElem?_eq_some_iff.mp hn).1
   have hkl:kvs.length≤999:=by
    have e1:=congrArg List.length hkk
    rw[List.length_map,List.length_map] at e1
    have:=ϕ2 (ns.take i)
    rw[List.length_take] at this;omega
   refine⟨_,rfl,_,rfl,d,_,rfl,DPut.k (k:=Sum.inl n) (v:=.bl true) hkd (szl' (by omega)),?_⟩
   refine⟨ϖv g1 hd,hil,⟨_,rfl⟩,_,ϖd,?_⟩
   rw[ϱt,hkk,ϖz hn,ϰW,ϡ2 (fun a b z=>by injection z)]
  rintro σ H1 ⟨g1,_,⟨x2,rfl⟩,kvs,hkd,hkk⟩
  rw[List.length_map,List.take_length] at hkk
  refine⟨_,rfl,d,rfl,.inl ⟨kvs,hkd,fun l hl=>?_⟩⟩
  refine q l _ (g1.trans (ϖe hl _)) (g1.free hl) ?_
  rw[ϖd]
  have e:(kvs.map fun kv=>kV kv.1)=(ϕl ns).map V.int:=by
   have e1:(kvs.map fun kv=>kV kv.1)=(kvs.map (·.1)).map kV:=by rw[List.map_map];rfl
   rw[e1,hkk,List.map_map];rfl
  rw[e]
 ·refine .inr fun d hd=>?_
  have g0:=ϖe hd (.dT [])
  have hyl:ks.length=ys.length:=hP.length
  refine⟨_,rfl,p,rfl,⟨_,g0.seq hS⟩,?_⟩
  let Iv_2:Nat→L2.St→Hp→Prop:=(fun i σ H'=>Same H H'∧i≤ys.length∧(∃ x,σ=[some (.ref p),some (.ref d),x])∧∃kvs:List (List Key×V),H' d=some (.dT kvs)∧kvs.map (·.1)=ϕl (ks.take i))
  refine ϖ5 (xs:=ys) Iv_2
   ⟨g0,Nat.zero_le _,⟨_,rfl⟩,[],ϖd,rfl⟩ (fun i σ H' _ z=>z.1.seq hS) (fun b_ r_ hb_ hr_=>?_) ?_
  ·rintro i x σ H1 hx ⟨g1,hi,⟨x2,rfl⟩,kvs,hkd,hkk⟩
   obtain⟨k,hk,b,rfl,hb⟩:=ϖw hP hx
   have hil:i < ys.length:=(List.getElem?_eq_some_iff.mp hx).1
   have hkl:kvs.length≤999:=by
    have e1:=congrArg List.length hkk
    rw[List.length_map] at e1
    have:=ϕ2 (ks.take i)
    rw[List.length_take] at this;omega
   refine⟨_,rfl,_,rfl,d,_,rfl,DPut.t (v:=.bl true) hkd (g1 _ _ hb) (szl' (by omega)),?_⟩
   refine⟨ϖv g1 hd,hil,⟨_,rfl⟩,_,ϖd,?_⟩
   rw[ϱt,hkk,ϖz hk,ϰW]
  rintro σ H1 ⟨g1,_,⟨x2,rfl⟩,kvs,hkd,hkk⟩
  rw[← hyl,List.take_length] at hkk
  refine⟨_,rfl,d,rfl,.inr ⟨kvs,hkd,fun bs l hb hl=>?_⟩⟩
  have gl:=ϖe hl (.lst (bs.map V.ref))
  have hb2:=ϱl (F:=fun (k:List Key) (b:Addr)=>H1 b=some (.tup (k.map kV))) hb
  rw[hkk] at hb2
  exact q l _ bs (g1.trans gl) (g1.free hl) ϖd (ϖb (fun _ _ z=>gl _ _ z) hb2)
theorem ϟN:FnScope ["word"] ["word"] (ϖj ϰx):=⟨rfl,rfl,rfl,by decide +kernel,rfl,by decide +kernel,by decide +kernel⟩
theorem ϡY (B:Bi mg) {ϖc ϖg:Addr} (XB:Xb K mg ϖc ϖg)  {f:Addr}{fd:FuncData} (F:Fun K "turned" "turned" ϰx f fd):FnOk P w K mg base CX0 1 f fd ["word"] (ϟm):=by
 refine F.ok ϟN (fun vs H Q E h=>?_) (fun cdv A outer s H vs Q E hr h=>?_)
 ·obtain⟨w,rfl,_⟩:=h;rfl
 obtain⟨w,rfl,hw,q⟩:=h
 refine⟨_,(ϖk (ϖF (ϟI (pv 0) (pe_un ϝ6 ϖi)))),?_⟩
 exact⟨_,rfl,_,rfl,rfl,w,rfl,szl (by omega),q⟩
theorem sc_mirrored:FnScope ["scribe","begins","steps","ends"] ["scribe"] (ϖj ϕD):=⟨rfl,rfl,rfl,by decide +kernel,rfl,by decide +kernel,by decide +kernel⟩
theorem ϲJ (B:Bi mg) {ϖc ϖg:Addr} (XB:Xb K mg ϖc ϖg) (ϰU:Cal P w K mg base "turned" ["word"] 1 (ϟm)) {f:Addr}{fd:FuncData} (F:Fun K "mirrored" "mirrored" ϕD f fd):FnOk P w K mg base CX0 2 f fd ["scribe"] (ϛW K):=by
 refine F.ok sc_mirrored (fun vs H Q E h=>?_) (fun cdv A outer s H vs Q E hr h=>?_)
 ·obtain⟨v,s,pb,ps,pe,rfl,_⟩:=h;rfl
 obtain⟨v,s,pb,ps,pe,rfl,hV,bd,q⟩:=h
 refine⟨_,(ϖf (ϕF (i:=1) sc_mirrored.nd rfl (Or.inl rfl) (by rfl) (by rfl) (ϕs (N':=["room","word"]) (js:=[none,none]) rfl (by decide +kernel) rfl (by decide +kernel) rfl rfl) (kPI (K:=K) (fun k=>ϑ3 k _) (ϖZ (ϖo (kIx (K:=K) rIxT ϖl) (pv 0) (ϖm (by rfl) B.ENDS) (by intro _ _;rfl)))) (fun _ _ _ _ _=>(kPG (K:=K) (fun k=>gTup k 2 _) (ϑr (n:=2) (by rfl) (ϖs (ϖr (i:=0) (show List.Nodup (["room","word"]:List Str) by decide +kernel) rfl (Or.inl rfl)) (ϖs (ϖr (i:=1) (show List.Nodup (["room","word"]:List Str) by decide +kernel) rfl (Or.inl rfl)) ϖ6))))) (fun _ _ _ _ _=>ϕr) (fun _ _ _ _ _=>(ϖG (ϖa (pv 0) (ϖa (hs:=ϑ7) (ϖE ϰU hr (by decide:1≤1) (by rfl) (ϖa (pv 1) ϖh)) ϖh)))))
   (ϖf (ϕF (i:=2) sc_mirrored.nd rfl (Or.inl rfl) (by rfl) (by rfl) (ϕs (N':=["start","sign","word","goal"]) (js:=[none,none,none,none]) rfl (by decide +kernel) rfl (by decide +kernel) rfl rfl) (kPI (K:=K) (fun k=>ϑ3 k _) (ϖZ (ϖo (kIx (K:=K) rIxT ϖl) (pv 0) (ϖm (by rfl) B.STEPS) (by intro _ _;rfl)))) (fun _ _ _ _ _=>(kPG (K:=K) (fun k=>gTup k 4 _) (ϑr (n:=4) (by rfl) (ϖs (ϖr (i:=0) (show List.Nodup (["start","sign","word","goal"]:List Str) by decide +kernel) rfl (Or.inl rfl)) (ϖs (ϖr (i:=1) (show List.Nodup (["start","sign","word","goal"]:List Str) by decide +kernel) rfl (Or.inl rfl)) (ϖs (ϖr (i:=2) (show List.Nodup (["start","sign","word","goal"]:List Str) by decide +kernel) rfl (Or.inl rfl)) (ϖs (ϖr (i:=3) (show List.Nodup (["start","sign","word","goal"]:List Str) by decide +kernel) rfl (Or.inl rfl)) ϖ6))))))) (fun _ _ _ _ _=>ϕr) (fun _ _ _ _ _=>(ϖG (ϖa (pv 3) (ϖa (pv 1) (ϖa (hs:=ϑ7) (ϖE ϰU hr (by decide:1≤1) (by rfl) (ϖa (pv 2) ϖh)) (ϖa (pv 0) ϖh)))))))
   (ϖf (ϕF (i:=3) sc_mirrored.nd rfl (Or.inl rfl) (by rfl) (by rfl) (ϕs (N':=["room","word"]) (js:=[none,none]) rfl (by decide +kernel) rfl (by decide +kernel) rfl rfl) (kPI (K:=K) (fun k=>ϑ3 k _) (ϖZ (ϖo (kIx (K:=K) rIxT ϖl) (pv 0) (ϖm (by rfl) B.BEGINS) (by intro _ _;rfl)))) (fun _ _ _ _ _=>(kPG (K:=K) (fun k=>gTup k 2 _) (ϑr (n:=2) (by rfl) (ϖs (ϖr (i:=0) (show List.Nodup (["room","word"]:List Str) by decide +kernel) rfl (Or.inl rfl)) (ϖs (ϖr (i:=1) (show List.Nodup (["room","word"]:List Str) by decide +kernel) rfl (Or.inl rfl)) ϖ6))))) (fun _ _ _ _ _=>ϕr) (fun _ _ _ _ _=>(ϖG (ϖa (pv 0) (ϖa (hs:=ϑ7) (ϖE ϰU hr (by decide:1≤1) (by rfl) (ϖa (pv 1) ϖh)) ϖh)))))
   (ϖk (ϖF (ϖG (ϖa (hs:=ϖA) (ϖo (kIx (K:=K) rIxT ϖl) (pv 0) (ϖm (by rfl) B.SIGNS) (by intro _ _;rfl)) (ϖa (hs:=ϖA) (ϖo (kIx (K:=K) rIxT ϖl) (pv 0) (ϖm (by rfl) B.ROOMS) (by intro _ _;rfl)) (ϖa (pv 1) (ϖa (pv 2) (ϖa (pv 3) ϖh))))))))))),?_⟩
 obtain⟨a,xb,xs,xe,rfl,h1,h2,h3,h4,h5,h6,h7⟩:=hV
 refine⟨_,rfl,_,_,_,_,rfl,rfl,h1,rfl,pe,rfl,⟨xe,h4⟩,?_⟩
 refine ϑt (xs:=xe) (fun i ys τ H'=>Same H H'∧(∃ x y,τ=[x,y])∧i≤xe.length∧Paired (MkV K H') ((s.ends.take i).map rvM) ys) ⟨Same.refl _,⟨_,_,rfl⟩,Nat.zero_le _,.nil⟩ (fun i ys τ H' z=>z.1.seq h4) ?_ ?_
 ·rintro i x ys τ H' hx ⟨g',⟨x0,y0,rfl⟩,hi,hP⟩
  obtain⟨m,hm,b,rfl,hb⟩:=ϖw h7 hx
  have hil:i < xe.length:=(List.getElem?_eq_some_iff.mp hx).1
  have hll:xe.length≤999:=by rw[← h7.length];exact bd.le
  have hb1:=(Same.grow g').seqT hb
  have hyl:ys.length≤999:=by rw[← hP.length,List.length_map,List.length_take];omega
  refine⟨b,_,rfl,hb1,rfl,_,_,rfl,_,_,rfl,rfl,?_⟩
  refine⟨_,rfl,_,rfl,m.2,rfl,bd.we m (List.mem_of_getElem? hm),(by show 2≤sizeLine;decide),fun p hp=>⟨szl' (by omega),g'.trans (ϖe hp _),⟨_,_,rfl⟩,hil,?_⟩⟩
  rw[ϖz hm,List.map_append]
  exact ϖt (ϖb (fun _ _=>MkV.mono (ϕw hp _)) hP) (.cons ⟨p,rfl,SqT.of ϖd⟩ .nil)
 rintro fay τ faH ⟨gfa,_,_,hPfa⟩ fa hfa
 rw[← h7.length,List.take_length] at hPfa
 have hfa0:=gfa.free hfa
 have kfa:=ϖe hfa (.lst fay)
 have efa:=ϖd (H:=faH) (a:=fa) (o:=.lst fay)
 have gfa:=gfa.trans kfa
 have hPfa:=ϖb (fun _ _=>MkV.mono (Same.grow kfa)) hPfa
 generalize upd faH fa (.lst fay)=faK at efa gfa hPfa⊢
 have h6a:=ϖb (fun _ _=>StV.mono (Same.grow gfa)) h6
 refine⟨_,rfl,_,_,_,_,rfl,rfl,Same.seqT gfa h1,rfl,ps,rfl,⟨xs,gfa.seq h3⟩,?_⟩
 refine ϑt (xs:=xs) (fun i ys τ H'=>Same faK H'∧(∃ x y z u,τ=[x,y,z,u])∧i≤xs.length∧Paired (StV K H') ((s.steps.take i).map rvT) ys) ⟨Same.refl _,⟨_,_,_,_,rfl⟩,Nat.zero_le _,.nil⟩ (fun i ys τ H' z=>z.1.seq (gfa.seq h3)) ?_ ?_
 ·rintro i x ys τ H' hx ⟨g',⟨x0,y0,z0,u0,rfl⟩,hi,hP⟩
  obtain⟨m,hm,b,rfl,hb⟩:=ϖw h6a hx
  have hil:i < xs.length:=(List.getElem?_eq_some_iff.mp hx).1
  have hll:xs.length≤999:=by rw[← h6a.length];exact bd.ls
  have hb1:=(Same.grow g').seqT hb
  have hyl:ys.length≤999:=by rw[← hP.length,List.length_map,List.length_take];omega
  refine⟨b,_,rfl,hb1,rfl,_,_,rfl,_,_,rfl,_,_,rfl,_,_,rfl,rfl,?_⟩
  refine⟨_,rfl,_,rfl,_,rfl,m.2.2.1,rfl,bd.ws m (List.mem_of_getElem? hm),_,rfl,(by show 4≤sizeLine;decide),fun p hp=>⟨szl' (by omega),g'.trans (ϖe hp _),⟨_,_,_,_,rfl⟩,hil,?_⟩⟩
  rw[ϖz hm,List.map_append]
  exact ϖt (ϖb (fun _ _=>StV.mono (ϕw hp _)) hP) (.cons ⟨p,rfl,SqT.of ϖd⟩ .nil)
 rintro fby τ fbH ⟨gfb,_,_,hPfb⟩ fb hfb
 rw[← h6a.length,List.take_length] at hPfb
 have hfb0:=gfb.free hfb
 have kfb:=ϖe hfb (.lst fby)
 have efb:=ϖd (H:=fbH) (a:=fb) (o:=.lst fby)
 have gfb:=gfb.trans kfb
 have hPfb:=ϖb (fun _ _=>StV.mono (Same.grow kfb)) hPfb
 generalize upd fbH fb (.lst fby)=fbK at efb gfb hPfb⊢
 have g2:=gfa.trans gfb
 have h5b:=ϖb (fun _ _=>MkV.mono (Same.grow g2)) h5
 refine⟨_,rfl,_,_,_,_,rfl,rfl,Same.seqT g2 h1,rfl,pb,rfl,⟨xb,g2.seq h2⟩,?_⟩
 refine ϑt (xs:=xb) (fun i ys τ H'=>Same fbK H'∧(∃ x y,τ=[x,y])∧i≤xb.length∧Paired (MkV K H') ((s.begins.take i).map rvM) ys) ⟨Same.refl _,⟨_,_,rfl⟩,Nat.zero_le _,.nil⟩ (fun i ys τ H' z=>z.1.seq (g2.seq h2)) ?_ ?_
 ·rintro i x ys τ H' hx ⟨g',⟨x0,y0,rfl⟩,hi,hP⟩
  obtain⟨m,hm,b,rfl,hb⟩:=ϖw h5b hx
  have hil:i < xb.length:=(List.getElem?_eq_some_iff.mp hx).1
  have hll:xb.length≤999:=by rw[← h5b.length];exact bd.lb
  have hb1:=(Same.grow g').seqT hb
  have hyl:ys.length≤999:=by rw[← hP.length,List.length_map,List.length_take];omega
  refine⟨b,_,rfl,hb1,rfl,_,_,rfl,_,_,rfl,rfl,?_⟩
  refine⟨_,rfl,_,rfl,m.2,rfl,bd.wb m (List.mem_of_getElem? hm),(by show 2≤sizeLine;decide),fun p hp=>⟨szl' (by omega),g'.trans (ϖe hp _),⟨_,_,rfl⟩,hil,?_⟩⟩
  rw[ϖz hm,List.map_append]
  exact ϖt (ϖb (fun _ _=>MkV.mono (ϕw hp _)) hP) (.cons ⟨p,rfl,SqT.of ϖd⟩ .nil)
 rintro fcy τ fcH ⟨gfc,_,_,hPfc⟩ fc hfc
 rw[← h5b.length,List.take_length] at hPfc
 have hfc0:=gfc.free hfc
 have kfc:=ϖe hfc (.lst fcy)
 have efc:=ϖd (H:=fcH) (a:=fc) (o:=.lst fcy)
 have gfc:=gfc.trans kfc
 have hPfc:=ϖb (fun _ _=>MkV.mono (Same.grow kfc)) hPfc
 generalize upd fcH fc (.lst fcy)=fcK at efc gfc hPfc⊢
 have g3:=g2.trans gfc
 have t1:=Same.seqT g3 h1
 refine⟨_,rfl,_,_,_,_,rfl,rfl,t1,rfl,_,rfl,_,_,_,_,rfl,rfl,t1,rfl,_,rfl,_,rfl,_,rfl,(by show 5≤sizeLine;decide),fun v hv=>?_⟩
 have gv:=ϖe hv (.tup [V.str s.signs,V.int s.rooms,V.ref fa,V.ref fb,V.ref fc])
 have ev:=ϖd (H:=fcK) (a:=v) (o:=.tup [V.str s.signs,V.int s.rooms,V.ref fa,V.ref fb,V.ref fc])
 dsimp only at hv⊢
 generalize upd fcK v (.tup [V.str s.signs,V.int s.rooms,V.ref fa,V.ref fb,V.ref fc])=H4 at gv ev⊢
 have ga:=(gfb.trans gfc).trans gv
 have gb:=gfc.trans gv
 exact q _ _ fa fb fc (g3.trans gv) ⟨v,fay,fby,fcy,rfl,SqT.of ev,ga _ _ efa,gb _ _ efb,gv _ _ efc,ϖb (fun _ _=>MkV.mono (Same.grow ga)) hPfa,ϖb (fun _ _=>StV.mono (Same.grow gb)) hPfb,ϖb (fun _ _=>MkV.mono (Same.grow gv)) hPfc⟩
  ⟨hfa0,gfa.free hfb0,g2.free hfc0,ϖn efa hfb0,ϖn (gfb _ _ efa) hfc0,ϖn efb hfc0⟩
theorem sc_either_of:FnScope ["one","other","more","begins","steps","ends"] ["one","other"] (ϖj ϕf):=⟨rfl,rfl,rfl,by decide +kernel,rfl,by decide +kernel,by decide +kernel⟩
theorem ϲq (B:Bi mg) {ϖc ϖg:Addr} (XB:Xb K mg ϖc ϖg) (ϖW:Cal1 P w K mg base "refuse_other_signs" ["one","other"] 1 (ϵu K ϖc)) {f:Addr}{fd:FuncData} (F:Fun K "either_of" "either_of" ϕf f fd):FnOk P w K mg base (CX1 P w) 2 f fd ["one","other"] (ϱx K ϖc ϖg):=by
 refine Fun.ok1 F sc_either_of (fun vs H Q E h=>?_) (fun cdv A outer s H vs Q E hr h=>?_)
 ·obtain⟨v,s,pb,ps,pe,w,u,qb,qs,qe,rfl,_⟩:=h;rfl
 obtain⟨v,s,pb,ps,pe,w,u,qb,qs,qe,rfl,hV,hU,ls_,lu,qS,qT,q⟩:=h
 refine⟨_,(ϖf (ϑm (ϰG ϖW hr (by decide:1≤1) (by rfl) ϵw (ϖa (pv 0) (ϖa (pv 1) ϖh))))
   (ϖf (ϖp (i:=2) sc_either_of.nd rfl (Or.inr rfl) (ϖo (kIx (K:=K) rIxT ϖl) (pv 0) (ϖm (by rfl) B.ROOMS) (by intro _ _;rfl)))
   (ϖf (ϑx (ϖI ϱn (ϖu ϖP (pv 2) (ϖo (kIx (K:=K) rIxT ϖl) (pv 1) (ϖm (by rfl) B.ROOMS) (by intro _ _;rfl))) (ϖm (by rfl) B.MOST_ROOMS) (ϖY _)) (ϖk (ϱv XB.own_TooMany (by rfl) (by rfl) ϱz ϕY)) ϖN)
   (ϖf (ϖp (i:=3) sc_either_of.nd rfl (Or.inl rfl) (ϖu (kOp (K:=K) ϝd ϲM) (ϖo (kIx (K:=K) rIxT ϖl) (pv 0) (ϖm (by rfl) B.BEGINS) (by intro _ _;rfl)) (ϕT rfl (ϕs (N':=["room","word","more"]) (js:=[none,none,some 2]) rfl (by decide +kernel) rfl (by decide +kernel) rfl rfl) (kPI (K:=K) (fun k=>ϑ3 k _) (ϖZ (ϖo (kIx (K:=K) rIxT ϖl) (pv 1) (ϖm (by rfl) B.BEGINS) (by intro _ _;rfl)))) (fun _ _ _ _ _=>(kPG (K:=K) (fun k=>gTup k 2 _) (ϑr (n:=2) (by rfl) (ϖs (ϖr (i:=0) (show List.Nodup (["room","word","more"]:List Str) by decide +kernel) rfl (Or.inl rfl)) (ϖs (ϖr (i:=1) (show List.Nodup (["room","word","more"]:List Str) by decide +kernel) rfl (Or.inl rfl)) ϖ6))))) (fun _ _ _ _ _=>ϕr) (fun _ _ _ _ _=>(ϖG (ϖa (hs:=ϑK) (ϖu ϖP (pv 0) (pv 2)) (ϖa (pv 1) ϖh)))))))
   (ϖf (ϖp (i:=4) sc_either_of.nd rfl (Or.inl rfl) (ϖu (kOp (K:=K) ϝd ϲM) (ϖo (kIx (K:=K) rIxT ϖl) (pv 0) (ϖm (by rfl) B.STEPS) (by intro _ _;rfl)) (ϕT rfl (ϕs (N':=["start","sign","word","goal","more"]) (js:=[none,none,none,none,some 2]) rfl (by decide +kernel) rfl (by decide +kernel) rfl rfl) (kPI (K:=K) (fun k=>ϑ3 k _) (ϖZ (ϖo (kIx (K:=K) rIxT ϖl) (pv 1) (ϖm (by rfl) B.STEPS) (by intro _ _;rfl)))) (fun _ _ _ _ _=>(kPG (K:=K) (fun k=>gTup k 4 _) (ϑr (n:=4) (by rfl) (ϖs (ϖr (i:=0) (show List.Nodup (["start","sign","word","goal","more"]:List Str) by decide +kernel) rfl (Or.inl rfl)) (ϖs (ϖr (i:=1) (show List.Nodup (["start","sign","word","goal","more"]:List Str) by decide +kernel) rfl (Or.inl rfl)) (ϖs (ϖr (i:=2) (show List.Nodup (["start","sign","word","goal","more"]:List Str) by decide +kernel) rfl (Or.inl rfl)) (ϖs (ϖr (i:=3) (show List.Nodup (["start","sign","word","goal","more"]:List Str) by decide +kernel) rfl (Or.inl rfl)) ϖ6))))))) (fun _ _ _ _ _=>ϕr) (fun _ _ _ _ _=>(ϖG (ϖa (hs:=ϑK) (ϖu ϖP (pv 0) (pv 4)) (ϖa (pv 1) (ϖa (pv 2) (ϖa (hs:=ϑK) (ϖu ϖP (pv 3) (pv 4)) ϖh)))))))))
   (ϖf (ϖp (i:=5) sc_either_of.nd rfl (Or.inl rfl) (ϖu (kOp (K:=K) ϝd ϲM) (ϖo (kIx (K:=K) rIxT ϖl) (pv 0) (ϖm (by rfl) B.ENDS) (by intro _ _;rfl)) (ϕT rfl (ϕs (N':=["room","word","more"]) (js:=[none,none,some 2]) rfl (by decide +kernel) rfl (by decide +kernel) rfl rfl) (kPI (K:=K) (fun k=>ϑ3 k _) (ϖZ (ϖo (kIx (K:=K) rIxT ϖl) (pv 1) (ϖm (by rfl) B.ENDS) (by intro _ _;rfl)))) (fun _ _ _ _ _=>(kPG (K:=K) (fun k=>gTup k 2 _) (ϑr (n:=2) (by rfl) (ϖs (ϖr (i:=0) (show List.Nodup (["room","word","more"]:List Str) by decide +kernel) rfl (Or.inl rfl)) (ϖs (ϖr (i:=1) (show List.Nodup (["room","word","more"]:List Str) by decide +kernel) rfl (Or.inl rfl)) ϖ6))))) (fun _ _ _ _ _=>ϕr) (fun _ _ _ _ _=>(ϖG (ϖa (hs:=ϑK) (ϖu ϖP (pv 0) (pv 2)) (ϖa (pv 1) ϖh)))))))
   (ϖk (ϖF (ϖG (ϖa (hs:=ϖA) (ϖo (kIx (K:=K) rIxT ϖl) (pv 0) (ϖm (by rfl) B.SIGNS) (by intro _ _;rfl)) (ϖa (hs:=ϑK) (ϖu ϖP (pv 2) (ϖo (kIx (K:=K) rIxT ϖl) (pv 1) (ϖm (by rfl) B.ROOMS) (by intro _ _;rfl))) (ϖa (pv 3) (ϖa (pv 4) (ϖa (pv 5) ϖh)))))))))))))),?_⟩
 replace ls_:LensR s:=⟨ls_.1,ls_.2.1,ls_.2.2⟩
 replace lu:LensR u:=⟨lu.1,lu.2.1,lu.2.2⟩
 refine⟨_,rfl,_,rfl,v,s,pb,ps,pe,w,u,qb,qs,qe,rfl,hV,hU,fun hs=>?_,fun hs=>qS hs⟩
 replace q:=q hs
 replace qT:=qT hs
 obtain⟨a,xb,xs,xe,rfl,h1,h2,h3,h4,h5,h6,h7⟩:=hV
 obtain⟨b,yb,ys,ye,rfl,k1,k2,k3,k4,k5,k6,k7⟩:=hU
 refine⟨_,rfl,_,_,_,_,rfl,rfl,h1,rfl,?_⟩
 refine⟨_,rfl,_,rfl,_,_,_,_,rfl,rfl,k1,rfl,_,_,rfl,rfl,_,_,rfl,rfl,_,rfl,ϕx (fun c=>?_) (fun c=>?_)⟩
 ·exact⟨rfl,qT (by omega)⟩
 replace q:=q (by omega)
 refine⟨_,rfl,_,_,_,_,rfl,rfl,h1,rfl,_,rfl,_,_,_,_,rfl,rfl,k1,rfl,qb,rfl,⟨yb,k2⟩,?_⟩
 refine ϑt (xs:=yb) (fun i rs τ H'=>Same H H'∧(∃ x y,τ=[x,y,some (.int s.rooms)])∧i≤yb.length∧Paired (MkV K H') ((u.begins.take i).map (shM s.rooms)) rs) ⟨Same.refl _,⟨_,_,rfl⟩,Nat.zero_le _,.nil⟩ (fun i rs τ H' z=>z.1.seq k2) ?_ ?_
 ·rintro i x rs τ H' hx ⟨g',⟨x0,y0,rfl⟩,hi,hP⟩
  obtain⟨m,hm,b,rfl,hb⟩:=ϖw k5 hx
  have hil:i < yb.length:=(List.getElem?_eq_some_iff.mp hx).1
  have hll:yb.length≤999:=by rw[← k5.length];exact lu.lb
  have hb1:=(Same.grow g').seqT hb
  have hyl:rs.length≤999:=by rw[← hP.length,List.length_map,List.length_take];omega
  refine⟨b,_,rfl,hb1,rfl,_,_,rfl,_,_,rfl,rfl,?_⟩
  refine⟨_,rfl,_,rfl,_,_,rfl,rfl,_,rfl,(by show 2≤sizeLine;decide),fun p hp=>⟨szl' (by omega),g'.trans (ϖe hp _),⟨_,_,rfl⟩,hil,?_⟩⟩
  rw[ϖz hm,List.map_append]
  exact ϖt (ϖb (fun _ _=>MkV.mono (ϕw hp _)) hP) (.cons ⟨p,rfl,SqT.of ϖd⟩ .nil)
 rintro fay τ faH ⟨gfa,_,_,hPfa⟩ fal hfal
 rw[← k5.length,List.take_length] at hPfa
 have kfa:=ϖe hfal (.lst fay)
 have efal:=ϖd (H:=faH) (a:=fal) (o:=.lst fay)
 have gfa:=gfa.trans kfa
 have hPfa:=ϖb (fun _ _=>MkV.mono (Same.grow kfa)) hPfa
 generalize upd faH fal (.lst fay)=faJ at efal gfa hPfa⊢
 have zfa:xb.length+fay.length≤2000:=by rw[← hPfa.length,← h5.length,List.length_map];have:=ls_.lb;have:=lu.lb;omega
 refine⟨_,fal,_,_,rfl,rfl, gfa.seq h2,SqL.of efal,szl (by omega),fun fa hfa=>?_⟩
 have hfa0:=gfa.free hfa
 have kfa:=ϖe hfa (.lst (xb++fay))
 have efa:=ϖd (H:=faJ) (a:=fa) (o:=.lst (xb++fay))
 have hPfa:=ϖt (ϖb (fun _ _=>MkV.mono (Same.grow gfa)) h5) hPfa
 have hPfa:=ϖb (fun _ _=>MkV.mono (Same.grow kfa)) hPfa
 have gfa:=gfa.trans kfa
 generalize upd faJ fa (.lst (xb++fay))=faK at efa gfa hPfa⊢
 have h6a:=ϖb (fun _ _=>StV.mono (Same.grow gfa)) h6
 have k6a:=ϖb (fun _ _=>StV.mono (Same.grow gfa)) k6
 have h3a:=gfa.seq h3
 refine⟨_,rfl,_,_,_,_,rfl,rfl,Same.seqT gfa h1,rfl,_,rfl,_,_,_,_,rfl,rfl,Same.seqT gfa k1,rfl,qs,rfl,⟨ys,gfa.seq k3⟩,?_⟩
 refine ϑt (xs:=ys) (fun i rs τ H'=>Same faK H'∧(∃ x y x2 y2,τ=[x,y,x2,y2,some (.int s.rooms)])∧i≤ys.length∧Paired (StV K H') ((u.steps.take i).map (shT s.rooms)) rs) ⟨Same.refl _,⟨_,_,_,_,rfl⟩,Nat.zero_le _,.nil⟩ (fun i rs τ H' z=>z.1.seq (gfa.seq k3)) ?_ ?_
 ·rintro i x rs τ H' hx ⟨g',⟨x0,y0,x2,y2,rfl⟩,hi,hP⟩
  obtain⟨m,hm,b,rfl,hb⟩:=ϖw k6a hx
  have hil:i < ys.length:=(List.getElem?_eq_some_iff.mp hx).1
  have hll:ys.length≤999:=by rw[← k6a.length];exact lu.ls
  have hb1:=(Same.grow g').seqT hb
  have hyl:rs.length≤999:=by rw[← hP.length,List.length_map,List.length_take];omega
  refine⟨b,_,rfl,hb1,rfl,_,_,rfl,_,_,rfl,_,_,rfl,_,_,rfl,rfl,?_⟩
  refine⟨_,rfl,_,rfl,_,_,rfl,rfl,_,rfl,_,rfl,_,rfl,_,rfl,_,_,rfl,rfl,(by show 4≤sizeLine;decide),fun p hp=>⟨szl' (by omega),g'.trans (ϖe hp _),⟨_,_,_,_,rfl⟩,hil,?_⟩⟩
  rw[ϖz hm,List.map_append]
  exact ϖt (ϖb (fun _ _=>StV.mono (ϕw hp _)) hP) (.cons ⟨p,rfl,SqT.of ϖd⟩ .nil)
 rintro fby τ fbH ⟨gfb,_,_,hPfb⟩ fbl hfbl
 rw[← k6a.length,List.take_length] at hPfb
 have kfb:=ϖe hfbl (.lst fby)
 have efbl:=ϖd (H:=fbH) (a:=fbl) (o:=.lst fby)
 have gfb:=gfb.trans kfb
 have hPfb:=ϖb (fun _ _=>StV.mono (Same.grow kfb)) hPfb
 generalize upd fbH fbl (.lst fby)=fbJ at efbl gfb hPfb⊢
 have zfb:xs.length+fby.length≤2000:=by rw[← hPfb.length,← h6a.length,List.length_map];have:=ls_.ls;have:=lu.ls;omega
 refine⟨_,fbl,_,_,rfl,rfl, gfb.seq h3a,SqL.of efbl,szl (by omega),fun fb hfb=>?_⟩
 have hfb0:=gfb.free hfb
 have kfb:=ϖe hfb (.lst (xs++fby))
 have efb:=ϖd (H:=fbJ) (a:=fb) (o:=.lst (xs++fby))
 have hPfb:=ϖt (ϖb (fun _ _=>StV.mono (Same.grow gfb)) h6a) hPfb
 have hPfb:=ϖb (fun _ _=>StV.mono (Same.grow kfb)) hPfb
 have gfb:=gfb.trans kfb
 generalize upd fbJ fb (.lst (xs++fby))=fbK at efb gfb hPfb⊢
 have g2:=gfa.trans gfb
 have h7b:=ϖb (fun _ _=>MkV.mono (Same.grow g2)) h7
 have k7b:=ϖb (fun _ _=>MkV.mono (Same.grow g2)) k7
 have h4b:=g2.seq h4
 refine⟨_,rfl,_,_,_,_,rfl,rfl,Same.seqT g2 h1,rfl,_,rfl,_,_,_,_,rfl,rfl,Same.seqT g2 k1,rfl,qe,rfl,⟨ye,g2.seq k4⟩,?_⟩
 refine ϑt (xs:=ye) (fun i rs τ H'=>Same fbK H'∧(∃ x y,τ=[x,y,some (.int s.rooms)])∧i≤ye.length∧Paired (MkV K H') ((u.ends.take i).map (shM s.rooms)) rs) ⟨Same.refl _,⟨_,_,rfl⟩,Nat.zero_le _,.nil⟩ (fun i rs τ H' z=>z.1.seq (g2.seq k4)) ?_ ?_
 ·rintro i x rs τ H' hx ⟨g',⟨x0,y0,rfl⟩,hi,hP⟩
  obtain⟨m,hm,b,rfl,hb⟩:=ϖw k7b hx
  have hil:i < ye.length:=(List.getElem?_eq_some_iff.mp hx).1
  have hll:ye.length≤999:=by rw[← k7b.length];exact lu.le
  have hb1:=(Same.grow g').seqT hb
  have hyl:rs.length≤999:=by rw[← hP.length,List.length_map,List.length_take];omega
  refine⟨b,_,rfl,hb1,rfl,_,_,rfl,_,_,rfl,rfl,?_⟩
  refine⟨_,rfl,_,rfl,_,_,rfl,rfl,_,rfl,(by show 2≤sizeLine;decide),fun p hp=>⟨szl' (by omega),g'.trans (ϖe hp _),⟨_,_,rfl⟩,hil,?_⟩⟩
  rw[ϖz hm,List.map_append]
  exact ϖt (ϖb (fun _ _=>MkV.mono (ϕw hp _)) hP) (.cons ⟨p,rfl,SqT.of ϖd⟩ .nil)
 rintro fcy τ fcH ⟨gfc,_,_,hPfc⟩ fcl hfcl
 rw[← k7b.length,List.take_length] at hPfc
 have kfc:=ϖe hfcl (.lst fcy)
 have efcl:=ϖd (H:=fcH) (a:=fcl) (o:=.lst fcy)
 have gfc:=gfc.trans kfc
 have hPfc:=ϖb (fun _ _=>MkV.mono (Same.grow kfc)) hPfc
 generalize upd fcH fcl (.lst fcy)=fcJ at efcl gfc hPfc⊢
 have zfc:xe.length+fcy.length≤2000:=by rw[← hPfc.length,← h7b.length,List.length_map];have:=ls_.le;have:=lu.le;omega
 refine⟨_,fcl,_,_,rfl,rfl, gfc.seq h4b,SqL.of efcl,szl (by omega),fun fc hfc=>?_⟩
 have hfc0:=gfc.free hfc
 have kfc:=ϖe hfc (.lst (xe++fcy))
 have efc:=ϖd (H:=fcJ) (a:=fc) (o:=.lst (xe++fcy))
 have hPfc:=ϖt (ϖb (fun _ _=>MkV.mono (Same.grow gfc)) h7b) hPfc
 have hPfc:=ϖb (fun _ _=>MkV.mono (Same.grow kfc)) hPfc
 have gfc:=gfc.trans kfc
 generalize upd fcJ fc (.lst (xe++fcy))=fcK at efc gfc hPfc⊢
 have g3:=g2.trans gfc
 have t1:=Same.seqT g3 h1
 have t2:=Same.seqT g3 k1
 refine⟨_,rfl,_,_,_,_,rfl,rfl,t1,rfl,_,rfl,_,rfl,_,_,_,_,rfl,rfl,t2,rfl,_,_,rfl,rfl,_,rfl,_,rfl,_,rfl,(by show 5≤sizeLine;decide),fun v hv=>?_⟩
 have gv:=ϖe hv (.tup [V.str s.signs,V.int (s.rooms+u.rooms),V.ref fa,V.ref fb,V.ref fc])
 have ev:=ϖd (H:=fcK) (a:=v) (o:=.tup [V.str s.signs,V.int (s.rooms+u.rooms),V.ref fa,V.ref fb,V.ref fc])
 dsimp only at hv⊢
 generalize upd fcK v (.tup [V.str s.signs,V.int (s.rooms+u.rooms),V.ref fa,V.ref fb,V.ref fc])=H4 at gv ev⊢
 have ga:=(gfb.trans gfc).trans gv
 have gb:=gfc.trans gv
 exact q _ _ fa fb fc (g3.trans gv) ⟨v,_,_,_,rfl,SqT.of ev,ga _ _ efa,gb _ _ efb,gv _ _ efc,ϖb (fun _ _=>MkV.mono (Same.grow ga)) hPfa,ϖb (fun _ _=>StV.mono (Same.grow gb)) hPfb,ϖb (fun _ _=>MkV.mono (Same.grow gv)) hPfc⟩
  ⟨hfa0,gfa.free hfb0,g2.free hfc0,ϖn efa hfb0,ϖn (gfb _ _ efa) hfc0,ϖn efb hfc0⟩
theorem sc_kept_marks:FnScope ["marks","others","count","rooms","kept","room","word"] ["marks","others","count"] (ϖj ϑ0):=⟨rfl,rfl,rfl,by decide +kernel,rfl,by decide +kernel,by decide +kernel⟩
theorem ϵB (B:Bi mg) {ϖc ϖg:Addr} (XB:Xb K mg ϖc ϖg) (ϑ_:Cal P w K mg base "each_once" ["parts"] 1 (ϡl K)) {f:Addr}{fd:FuncData} (F:Fun K "kept_marks" "kept_marks" ϑ0 f fd):FnOk P w K mg base CX0 2 f fd ["marks","others","count"] (ϵv K):=by
 refine F.ok sc_kept_marks (fun vs H Q E h=>?_) (fun cdv A outer s H vs Q E hr h=>?_)
 ·obtain⟨p,o,n,M,T,rfl,_⟩:=h;rfl
 obtain⟨p,o,n,M,T,rfl,hM,hT,lM,lT,hn,q⟩:=h
 refine⟨_,(ϖf (ϖp (i:=3) sc_kept_marks.nd rfl (Or.inl rfl) (ϖE ϑ_ hr (by decide:1≤1) (by rfl) (ϖa (ϕT rfl (ϕs (N':=["room","word"]) (js:=[none,none]) rfl (by decide +kernel) rfl (by decide +kernel) rfl rfl) (kPI (K:=K) (fun k=>ϑ3 k _) (ϖZ (pv 1))) (fun _ _ _ _ _=>(kPG (K:=K) (fun k=>gTup k 2 _) (ϑr (n:=2) (by rfl) (ϖs (ϖr (i:=0) (show List.Nodup (["room","word"]:List Str) by decide +kernel) rfl (Or.inl rfl)) (ϖs (ϖr (i:=1) (show List.Nodup (["room","word"]:List Str) by decide +kernel) rfl (Or.inl rfl)) ϖ6))))) (fun _ _ _ _ _=>ϕr) (fun _ _ _ _ _=>(pv 0))) ϖh)))
   (ϖf (ϖp (i:=4) sc_kept_marks.nd rfl (Or.inl rfl) (ϑa ϖh))
   (ϖf (ϑd PassesOwn.never (by rfl) (kPI (K:=K) (fun k=>ϑ3 k _) (ϖZ (pv 0))) (kPG (K:=K) (fun k=>gTup k 2 _) (ϑr (n:=2) (by rfl) (ϖs (ϖr (i:=5) sc_kept_marks.nd rfl (Or.inr rfl)) (ϖs (ϖr (i:=6) sc_kept_marks.nd rfl (Or.inr rfl)) ϖ6)))) (ϖk (ϑm (kPE (K:=K) (fun k=>tBM k _ _ _ _) (ϕv PySem.F.plainAttrs_list PySem.F.slot_list_extend PySem.F.type_list_extend ϟ5 (pv 4) (ϖa (ϕT rfl (ϕs (N':=["other","word","room","count"]) (js:=[none,some 6,some 5,some 2]) rfl (by decide +kernel) rfl (by decide +kernel) rfl rfl) (kPI (K:=K) (fun k=>ϑ3 k _) (ϖZ (pv 3))) (fun _ _ _ _ _=>(ϖr (i:=0) (show List.Nodup (["other","word","room","count"]:List Str) by decide +kernel) rfl (Or.inl rfl))) (fun _ _ _ _ _=>ϕr) (fun _ _ _ _ _=>(ϖG (ϖa (hs:=ϑK) (ϖu ϖP (ϖu ϑq (pv 2) (pv 3)) (pv 0)) (ϖa (pv 1) ϖh))))) ϖh))))))
   (ϖk (ϖF (pv 4)))))),?_⟩
 obtain⟨xm,m1,m2⟩:=hM
 obtain⟨xo,o1,o2⟩:=hT
 have lxo:T.length=xo.length:=o2.length
 have lxm:M.length=xm.length:=m2.length
 refine⟨_,rfl,o,rfl,⟨xo,o1⟩,?_⟩
 refine ϑt (xs:=xo) (fun i ys τ H'=>H=H'∧(∃ x y,τ=[x,y])∧i≤xo.length∧ys=((T.take i).map (·.1)).map V.int) ⟨rfl,⟨_,_,rfl⟩,Nat.zero_le _,rfl⟩ (fun i ys τ H' z=>z.1▸o1) ?_ ?_
 ·rintro i x ys τ _ hx ⟨rfl,⟨x0,y0,rfl⟩,hi,rfl⟩
  obtain⟨m,hm,b,rfl,hb⟩:=ϖw o2 hx
  have hil:i < xo.length:=(List.getElem?_eq_some_iff.mp hx).1
  refine⟨b,_,rfl,hb,rfl,_,_,rfl,_,_,rfl,rfl,?_⟩
  refine⟨_,rfl,szl' (by rw[List.length_map,List.length_map,List.length_take];omega),rfl,⟨_,_,rfl⟩,hil,?_⟩
  rw[ϖz hm,List.map_append,List.map_append];rfl
 rintro ys τ _ ⟨rfl,_,_,rfl⟩ pl hpl
 rw[← lxo,List.take_length]
 have gl:=ϖe hpl (.lst ((T.map (·.1)).map V.int))
 have el:=ϖd (H:=H) (a:=pl) (o:=.lst ((T.map (·.1)).map V.int))
 generalize upd H pl (.lst ((T.map (·.1)).map V.int))=H1 at gl el⊢
 refine⟨pl,rfl,.inl ⟨T.map (·.1),SqL.of el,by rw[List.length_map];omega,fun lr H2 g2 hlr elr=>?_⟩⟩
 have hol:=ϕ2 (T.map (·.1))
 rw[List.length_map] at hol
 have g02:=gl.trans g2
 have hRR:kpM n M T=M.flatMap fun m=>(ϕl (T.map (·.1))).map fun q=>(m.1*n+q,m.2):=rfl
 refine⟨szl (by simp),fun pk hpk=>?_⟩
 have gk:=ϖe hpk (.lst [])
 have ek:=ϖd (H:=H2) (a:=pk) (o:=.lst [])
 generalize upd H2 pk (.lst [])=H3 at gk ek⊢
 have m2':=ϖb (fun _ _=>MkV.mono (Same.grow g02)) m2
 refine⟨_,rfl,p,rfl,⟨xm,(g02.trans gk).seq m1⟩,?_⟩
 let Iv_1:Nat→L2.St→Hp→Prop:=(fun i σ H'=>Same H2 H'∧i≤xm.length∧(∃ x5 x6,σ=[some (.ref p),some (.ref o),some (.int n),some (.ref lr),some (.ref pk),x5,x6])∧∃zs,H' pk=some (.lst zs)∧Paired (MkV K H') (kpM n (M.take i) T) zs)
 refine ϖ5 (xs:=xm) Iv_1
  ⟨gk,Nat.zero_le _,⟨_,_,rfl⟩,[],ek,.nil⟩ (fun i σ H' _ z=>(g02.trans z.1).seq m1) (fun b_ r_ hb_ hr_=>?_) ?_
 ·rintro i x σ H5 hx ⟨g5,hi,⟨x5,x6,rfl⟩,zs,ez,hP⟩
  obtain⟨m,hm,b,rfl,hb⟩:=ϖw m2' hx
  have hil:i < xm.length:=(List.getElem?_eq_some_iff.mp hx).1
  have hb1:=(Same.grow g5).seqT hb
  have elr5:=g5 _ _ elr
  have hzl:zs.length≤9801:=by rw[← hP.length];have:=ϟY n T lT (M.take i);rw[List.length_take] at this;omega
  refine⟨b,_,rfl,hb1,rfl,_,_,rfl,_,_,rfl,rfl,?_⟩
  refine⟨_,rfl,.inl ⟨rfl,_,SqL.of ez⟩,?_⟩
  refine⟨_,rfl,lr,rfl,⟨_,SqL.of elr5⟩,?_⟩
  refine ϑt (xs:=(ϕl (T.map (·.1))).map V.int) (fun j ys τ H'=>Same H5 H'∧(∃ x,τ=[x,some (.str m.2),some (.int m.1),some (.int n)])∧j≤(ϕl (T.map (·.1))).length∧Paired (MkV K H') (((ϕl (T.map (·.1))).take j).map fun q=>(m.1*n+q,m.2)) ys) ⟨Same.refl _,⟨_,rfl⟩,Nat.zero_le _,.nil⟩ (fun j ys τ H' z=>z.1.seq (SqL.of elr5)) ?_ ?_
  ·rintro j y ys τ H6 hy ⟨g6,⟨x0,rfl⟩,hj,hPy⟩
   rw[List.getElem?_map] at hy
   obtain⟨r,hr,rfl⟩:=Option.map_eq_some_iff.mp hy
   have hjl:j < (ϕl (T.map (·.1))).length:=(List.getElem?_eq_some_iff.mp hr).1
   have hyl:ys.length≤99:=by rw[← hPy.length,List.length_map,List.length_take];omega
   refine⟨_,rfl,_,rfl,_,_,rfl,rfl,.inr ⟨by have:=hn.1;have:=hn.2;omega,by have:=hn.1;have:=hn.2;omega⟩,_,rfl,_,_,rfl,rfl,_,rfl,(by show 2≤sizeLine;decide),fun p hp=>⟨szl' (by omega),g6.trans (ϖe hp _),⟨_,rfl⟩,hjl,?_⟩⟩
   rw[ϖz hr,List.map_append]
   exact ϖt (ϖb (fun _ _=>MkV.mono (ϕw hp _)) hPy) (.cons ⟨p,rfl,SqT.of ϖd⟩ .nil)
  rintro ys τ H6 ⟨g6,_,_,hPy⟩ py hpy
  rw[List.length_map,List.take_length] at hPy
  have hyl:ys.length≤99:=by rw[← hPy.length,List.length_map];omega
  have gy:=ϖe hpy (.lst ys)
  have ey:=ϖd (H:=H6) (a:=py) (o:=.lst ys)
  have g56:=g6.trans gy
  have ez:=g56 _ _ ez
  have hP:=ϖb (fun _ _=>MkV.mono (Same.grow g56)) hP
  have hPy:=ϖb (fun _ _=>MkV.mono (Same.grow gy)) hPy
  have g6:=g5.trans g56
  generalize upd H6 py (.lst ys)=H7 at ey ez hP hPy g6⊢
  refine⟨pk,py,zs,ys,rfl,rfl,ez,ey,szl (by omega),ϖv g6 hpk,hil,⟨_,_,rfl⟩,zs++ys,ϖd,?_⟩
  have gt:GT H7 (upd H7 pk (.lst (zs++ys))):=ϕQ ez (fun _ z=>nomatch z) (fun _ _ z=>nomatch z) _
  rw[ϝI hm]
  exact ϖt (ϖb (fun _ _=>MkV.gt gt) hP) (ϖb (fun _ _=>MkV.gt gt) hPy)
 rintro σ H5 ⟨g5,_,⟨x5,x6,rfl⟩,zs,ez,hP⟩
 rw[← lxm,List.take_length] at hP
 exact⟨_,rfl,q pk _ (g02.trans g5) (g02.free hpk) ⟨zs,ez,hP⟩⟩
theorem sc_moves_by_sign:FnScope ["steps","moves","start","sign","goal"] ["steps"] (ϖj ϑl):=⟨rfl,rfl,rfl,by decide +kernel,rfl,by decide +kernel,by decide +kernel⟩
theorem ϱo (B:Bi mg) {ϖc ϖg:Addr} (XB:Xb K mg ϖc ϖg) (ϑ_:Cal P w K mg base "each_once" ["parts"] 1 (ϡl K)) {f:Addr}{fd:FuncData} (F:Fun K "moves_by_sign" "moves_by_sign" ϑl f fd):FnOk P w K mg base CX0 2 f fd ["steps"] (ϲZ K):=by
 refine F.ok sc_moves_by_sign (fun vs H Q E h=>?_) (fun cdv A outer s H vs Q E hr h=>?_)
 ·obtain⟨p,T,rfl,_⟩:=h;rfl
 obtain⟨p,T,rfl,hT,lT,q⟩:=h
 refine⟨_,(ϖf (ϖp (i:=1) sc_moves_by_sign.nd rfl (Or.inl rfl) ϰu)
   (ϖf (ϑd PassesOwn.never (by rfl) (kPI (K:=K) (fun k=>ϑ3 k _) (ϖZ (ϖE ϑ_ hr (by decide:1≤1) (by rfl) (ϖa (ϕT rfl (ϕs (N':=["step"]) (js:=[none]) rfl (by decide +kernel) rfl (by decide +kernel) rfl rfl) (kPI (K:=K) (fun k=>ϑ3 k _) (ϖZ (pv 0))) (fun _ _ _ _ _=>(ϖr (i:=0) (show List.Nodup (["step"]:List Str) by decide +kernel) rfl (Or.inl rfl))) (fun _ _ _ _ _=>ϕr) (fun _ _ _ _ _=>(ϖG (ϖa (hs:=ϖA) (ϖo (kIx (K:=K) rIxT ϖl) (pv 0) ϖi (by intro _ _;rfl)) (ϖa (hs:=ϖA) (ϖo (kIx (K:=K) rIxT ϖl) (pv 0) ϖi (by intro _ _;rfl)) (ϖa (hs:=ϖA) (ϖo (kIx (K:=K) rIxT ϖl) (pv 0) ϖi (by intro _ _;rfl)) ϖh)))))) ϖh)))) (kPG (K:=K) (fun k=>gTup k 3 _) (ϑr (n:=3) (by rfl) (ϖs (ϖr (i:=2) sc_moves_by_sign.nd rfl (Or.inl rfl)) (ϖs (ϖr (i:=3) sc_moves_by_sign.nd rfl (Or.inl rfl)) (ϖs (ϖr (i:=4) sc_moves_by_sign.nd rfl (Or.inl rfl)) ϖ6))))) (ϖk (ϑm (kPE (K:=K) (fun k=>tBM k _ _ _ _) (ϕv PySem.F.plainAttrs_list PySem.F.slot_list_append PySem.F.type_list_append ϑh (kPE (K:=K) (fun k=>tBM k _ _ _ _) (ϕv PySem.F.plainAttrs_dict PySem.F.slot_dict_setdefault PySem.F.type_dict_setdefault (ϕ3 hr) (pv 1) (ϖa (pv 3) (ϖa (hs:=ϱ2) (ϑa ϖh) ϖh)))) (ϖa (hs:=ϱc) (ϖG (ϖa (pv 2) (ϖa (pv 4) ϖh))) ϖh))))))
   (ϖk (ϖF (pv 1))))),?_⟩
 obtain⟨xo,o1,o2⟩:=hT
 have lxo:T.length=xo.length:=o2.length
 refine fun d hd=>?_
 have gd:=ϖe hd (.dK [])
 have ed:=ϖd (H:=H) (a:=d) (o:=.dK [])
 have o2d:=ϖb (fun _ _=>StV.mono (Same.grow gd)) o2
 generalize upd H d (.dK [])=Hd at gd ed o2d⊢
 refine⟨_,rfl,p,rfl,⟨xo,gd.seq o1⟩,?_⟩
 refine ϑt (xs:=xo) (fun i ys τ H'=>Same Hd H'∧(∃ x,τ=[x])∧i≤xo.length∧Paired (KyR H') (((T.take i).map mvOf).map k3) ys) ⟨Same.refl _,⟨_,rfl⟩,Nat.zero_le _,.nil⟩ (fun i ys τ H' z=>z.1.seq (gd.seq o1)) ?_ ?_
 ·rintro i x ys τ H1 hx ⟨g1,⟨x0,rfl⟩,hi,hP⟩
  obtain⟨t,ht,b,rfl,hb⟩:=ϖw o2d hx
  have hil:i < xo.length:=(List.getElem?_eq_some_iff.mp hx).1
  have hb1:=(Same.grow g1).seqT hb
  have hyl:ys.length≤99:=by rw[← hP.length,List.length_map,List.length_map,List.length_take];omega
  refine⟨_,rfl,_,_,_,_,rfl,rfl,hb1,rfl,_,rfl,_,_,_,_,rfl,rfl,hb1,rfl,_,rfl,_,_,_,_,rfl,rfl,hb1,rfl,(by show 3≤sizeLine;decide),fun p hp=>⟨szl' (by omega),g1.trans (ϖe hp _),⟨_,rfl⟩,hil,?_⟩⟩
  rw[ϖz ht,List.map_append,List.map_append]
  exact ϖt (ϖb (fun _ _=>KyR.mono (ϖe hp _)) hP) (.cons ⟨p,rfl,ϖd⟩ .nil)
 rintro ys τ H1 ⟨g1,_,_,hP⟩ pl hpl
 rw[← lxo,List.take_length] at hP
 have gl:=ϖe hpl (.lst ys)
 have el:=ϖd (H:=H1) (a:=pl) (o:=.lst ys)
 have hP:=ϖb (fun _ _=>KyR.mono gl) hP
 have g1:=g1.trans gl
 generalize upd H1 pl (.lst ys)=H2 at el hP g1⊢
 refine⟨pl,rfl,.inr ⟨ys,_,SqL.of el,hP,by rw[List.length_map,List.length_map];omega,fun lm H3 bs g3 hlm elm hB=>?_⟩⟩
 rw[ϝi k3_inj] at hB
 have hBl:(mvs T).length=bs.length:=by have:=hB.length;rw[List.length_map] at this;exact this
 have hml:(mvs T).length≤99:=by have:=ϕ2 (T.map mvOf);rw[List.length_map] at this;exact Nat.le_trans this lT
 have g13:=g1.trans g3
 have ed3:=g13 _ _ ed
 refine⟨lm,rfl,⟨_,SqL.of elm⟩,?_⟩
 have hlmd:lm≠d:=fun z=>by rw[z,ed3] at elm;cases elm
 let Iv_1:Nat→L2.St→Hp→Prop:=(fun i σ H'=>Same H H'∧i≤bs.length∧(∃ x2 x3 x4,σ=[some (.ref p),some (.ref d),x2,x3,x4])∧H' lm=some (.lst (bs.map V.ref))∧GT H3 H'∧∃kvs:List (Key×V),H' d=some (.dK kvs)∧Bk (PrVk K) ϰ5 H H' d ((mvs T).take i) kvs∧∀k,valV kvs k≠some (.ref lm))
 refine ϖ5 (xs:=bs.map V.ref) Iv_1
  ⟨gd.trans g13,Nat.zero_le _,⟨_,_,_,rfl⟩,elm,GT.of (Same.refl _),[],ed3,Bk.nil,fun k z=>by cases z⟩ (fun i σ H' _ z=>SqL.of z.2.2.2.1) (fun b_ r_ hb_ hr_=>?_) ?_
 ·rintro i x σ H5 hx ⟨g5,hi,⟨x2,x3,x4,rfl⟩,elm5,gt5,kvs,hkd,bk,hlk⟩
  rw[List.getElem?_map] at hx
  obtain⟨b,hb,rfl⟩:=Option.map_eq_some_iff.mp hx
  have hil:i < bs.length:=(List.getElem?_eq_some_iff.mp hb).1
  obtain⟨k,hk,ebk⟩:=ϖw hB hb
  rw[List.getElem?_map] at hk
  obtain⟨u,hu,rfl⟩:=Option.map_eq_some_iff.mp hk
  replace hu:(mvs T)[i]?=some u:=hu
  have hb1:SqT K H5 b [V.int u.1,V.str u.2.1,V.int u.2.2]:=gt5.seqT (SqT.of ebk)
  have hkl:kvs.length≤999:=by have:=bk.len;rw[List.length_take] at this;omega
  refine⟨b,_,rfl,hb1,rfl,_,_,rfl,_,_,rfl,_,_,rfl,rfl,?_⟩
  refine⟨_,rfl,.inr (.inr (.inl ⟨rfl,.inl ⟨kvs,hkd⟩⟩)),?_⟩
  refine⟨_,rfl,szl (by simp),fun l hl=>?_⟩
  have gl:=ϖe hl (.lst [])
  have hk2:=gl _ _ hkd
  have bk2:=bk.mono (ϰN K) gl
  have g2:=g5.trans gl
  have el:upd H5 l (.lst []) l=some (.lst []):=ϖd
  have hl0:H l=none:=g5.free hl
  have hln:∀k,valV kvs k≠some (.ref l):=fun k hk=>by
   obtain⟨l',ys,e,_,_,h3',_⟩:=bk.there k _ hk
   injection e with e
   subst e
   rw[h3'] at hl;cases hl
  have hld:l≠d:=(ϖn hkd hl).symm
  have hllm:lm≠l:=ϖn elm5 hl
  have elm2:=gl _ _ elm5
  have gt2:=gt5.trans (GT.of gl)
  generalize upd H5 l (.lst [])=H6 at hk2 bk2 g2 el elm2 gt2⊢
  refine⟨d,.str u.2.1,.ref l,rfl,rfl,.inl ⟨kvs,ϰ5 u,hk2,rfl,szl' (by omega),fun r hr2=>?_,fun hn=>?_⟩⟩
  ·obtain⟨l2,ys,rfl,j1,j2,j3,j4,j5⟩:=bk2.there _ _ hr2
   have hyl:ys.length≤999:=by
    rw[← j4.length]
    have:=List.length_filter_le (fun t'=>decide (ϰ5 t'=ϰ5 u)) ((mvs T).take i)
    rw[List.length_take] at this;omega
   have hl2m:lm≠l2:=fun z=>hlk _ (z▸hr2)
   refine⟨.inl ⟨rfl,_,SqL.of j3⟩,_,rfl,_,rfl,(by show 2≤sizeLine;decide),fun p2 hp2=>?_⟩
   have gp:=ϖe hp2 (.tup [V.int u.1,V.int u.2.2])
   have ep:=ϖd (H:=H6) (a:=p2) (o:=.tup [V.int u.1,V.int u.2.2])
   have j3:=gp _ _ j3
   have hk2:=gp _ _ hk2
   have bk2:=bk2.mono (ϰN K) gp
   have g2:=g2.trans gp
   have elm2:=gp _ _ elm2
   have gt2:=gt2.trans (GT.of gp)
   dsimp only at hp2⊢
   generalize upd H6 p2 (.tup [V.int u.1,V.int u.2.2])=H7 at ep j3 hk2 bk2 g2 elm2 gt2⊢
   refine⟨l2,ys,_,rfl,rfl,j3,szl' (by omega),?_⟩
   refine⟨ϖv g2 j1,hil,⟨_,_,_,rfl⟩,(ϖq hl2m).trans elm2,gt2.trans (ϱN j3 _),kvs,by rw[ϖq j2.symm];exact hk2,?_,hlk⟩
   rw[ϖz hu]
   exact bk2.put (ϰN K) hr2 j3 ⟨p2,rfl,SqT.of ep⟩
  ·have e3:upd H6 d (.dK (putK kvs (ϰ5 u) (.ref l))) l=some (.lst []):=by rw[ϖq hld];exact el
   refine⟨.inl ⟨rfl,_,SqL.of e3⟩,_,rfl,_,rfl,(by show 2≤sizeLine;decide),fun p2 hp2=>?_⟩
   have hp2':H6 p2=none:=by
    by_cases z:p2=d
    ·subst z;rw[ϖd] at hp2;cases hp2
    ·rwa [ϖq z] at hp2
   have hpd:p2≠d:=fun z=>by subst z;rw[ϖd] at hp2;cases hp2
   have hpl2:p2≠l:=(ϖn el hp2').symm
   have gp:=ϖe hp2' (.tup [V.int u.1,V.int u.2.2])
   have ep:=ϖd (H:=H6) (a:=p2) (o:=.tup [V.int u.1,V.int u.2.2])
   have e4:upd (upd H6 d (.dK (putK kvs (ϰ5 u) (.ref l)))) p2 (.tup [V.int u.1,V.int u.2.2])=upd (upd H6 p2 (.tup [V.int u.1,V.int u.2.2])) d (.dK (putK kvs (ϰ5 u) (.ref l))):=by
    funext z
    by_cases z1:z=p2
    ·subst z1;rw[ϖd,ϖq hpd,ϖd]
    ·by_cases z2:z=d
     ·subst z2;rw[ϖq z1,ϖd,ϖd]
     ·rw[ϖq z1,ϖq z2,ϖq z2,ϖq z1]
   dsimp only at hp2⊢
   rw[e4]
   have hk2:=gp _ _ hk2
   have bk2:=bk2.mono (ϰN K) gp
   have g2:=g2.trans gp
   have el:=gp _ _ el
   have elm2:=gp _ _ elm2
   have gt2:=gt2.trans (GT.of gp)
   clear e3 e4
   generalize upd H6 p2 (.tup [V.int u.1,V.int u.2.2])=H7 at ep hk2 bk2 g2 el elm2 gt2⊢
   have e3:upd H7 d (.dK (putK kvs (ϰ5 u) (.ref l))) l=some (.lst []):=by rw[ϖq hld];exact el
   refine⟨l,[],_,rfl,rfl,e3,szl' (by simp),?_⟩
   refine⟨ϖv (ϖv g2 hd) hl0,hil,⟨_,_,_,rfl⟩,by rw[ϖq hllm,ϖq hlmd];exact elm2,(gt2.trans (ϕQ hk2 (fun _ z=>nomatch z) (fun _ _ z=>nomatch z) _)).trans (ϱN e3 _),putK kvs (ϰ5 u) (.ref l),by rw[ϖq hld.symm];exact ϖd,?_,?_⟩
   ·rw[ϖz hu]
    exact bk2.new (ϰN K) hn hl0 hld hk2 (fun _ z=>nomatch z) (fun _ _ z=>nomatch z) hln el ⟨p2,rfl,SqT.of ep⟩
   ·intro k z
    rw[ϕR] at z
    by_cases c:k=ϰ5 u
    ·rw[if_pos c] at z;injection z with z;injection z with z;exact hllm z.symm
    ·rw[if_neg c] at z;exact hlk k z
 rintro σ H5 ⟨g5,_,⟨x2,x3,x4,rfl⟩,_,_,kvs,hkd,bk,_⟩
 rw[List.length_map,← hBl,List.take_length] at bk
 exact⟨_,rfl,q _ _ g5 ⟨d,kvs,rfl,hkd,bk⟩⟩
theorem sc_kept_steps:FnScope ["steps","others","count","moves","kept","start","sign","word","goal","out_of","into"] ["steps","others","count"] (ϖj ϑX):=⟨rfl,rfl,rfl,by decide +kernel,rfl,by decide +kernel,by decide +kernel⟩
theorem ϵU (B:Bi mg) {ϖc ϖg:Addr} (XB:Xb K mg ϖc ϖg) (ϕI:Cal P w K mg base "moves_by_sign" ["steps"] 2 (ϲZ K)) {f:Addr}{fd:FuncData} (F:Fun K "kept_steps" "kept_steps" ϑX f fd):FnOk P w K mg base CX0 3 f fd ["steps","others","count"] (ϵD K):=by
 refine F.ok sc_kept_steps (fun vs H Q E h=>?_) (fun cdv A outer s H vs Q E hr h=>?_)
 ·obtain⟨p,o,n,M,T,rfl,_⟩:=h;rfl
 obtain⟨p,o,n,M,T,rfl,hM,hT,lM,lT,hn,q⟩:=h
 refine⟨_,(ϖf (ϖp (i:=3) sc_kept_steps.nd rfl (Or.inl rfl) (ϖE ϕI hr (by decide:2≤2) (by rfl) (ϖa (pv 1) ϖh)))
   (ϖf (ϖp (i:=4) sc_kept_steps.nd rfl (Or.inl rfl) (ϑa ϖh))
   (ϖf (ϑd PassesOwn.never (by rfl) (kPI (K:=K) (fun k=>ϑ3 k _) (ϖZ (pv 0))) (kPG (K:=K) (fun k=>gTup k 4 _) (ϑr (n:=4) (by rfl) (ϖs (ϖr (i:=5) sc_kept_steps.nd rfl (Or.inl rfl)) (ϖs (ϖr (i:=6) sc_kept_steps.nd rfl (Or.inl rfl)) (ϖs (ϖr (i:=7) sc_kept_steps.nd rfl (Or.inl rfl)) (ϖs (ϖr (i:=8) sc_kept_steps.nd rfl (Or.inl rfl)) ϖ6)))))) (ϖk (ϑd PassesOwn.never (by rfl) (kPI (K:=K) (fun k=>ϑ3 k _) (ϖZ (kPE (K:=K) (fun k=>tBM k _ _ _ _) (ϕv PySem.F.plainAttrs_dict PySem.F.slot_dict_get PySem.F.type_dict_get (ϲC hr) (pv 3) (ϖa (pv 6) (ϖa (hs:=ϱ2) (ϑa ϖh) ϖh)))))) (kPG (K:=K) (fun k=>gTup k 2 _) (ϑr (n:=2) (by rfl) (ϖs (ϖr (i:=9) sc_kept_steps.nd rfl (Or.inl rfl)) (ϖs (ϖr (i:=10) sc_kept_steps.nd rfl (Or.inl rfl)) ϖ6)))) (ϖk (ϑm (kPE (K:=K) (fun k=>tBM k _ _ _ _) (ϕv PySem.F.plainAttrs_list PySem.F.slot_list_append PySem.F.type_list_append ϑh (pv 4) (ϖa (hs:=ϱc) (ϖG (ϖa (hs:=ϑK) (ϖu ϖP (ϖu ϑq (pv 5) (pv 2)) (pv 9)) (ϖa (pv 6) (ϖa (pv 7) (ϖa (hs:=ϑK) (ϖu ϖP (ϖu ϑq (pv 8) (pv 2)) (pv 10)) ϖh))))) ϖh))))))))
   (ϖk (ϖF (pv 4)))))),?_⟩
 obtain⟨xm,m1,m2⟩:=hM
 have lxm:M.length=xm.length:=m2.length
 have hn0:=hn.1
 have hn1:=hn.2
 refine⟨_,rfl,o,T,rfl,hT,lT,fun vd H1 g1 hD=>?_⟩
 have hml:(mvs T).length≤99:=by have:=ϕ2 (T.map mvOf);rw[List.length_map] at this;exact Nat.le_trans this lT
 refine⟨szl (by simp),fun pk hpk=>?_⟩
 have gk:=ϖe hpk (.lst [])
 have ek:=ϖd (H:=H1) (a:=pk) (o:=.lst [])
 generalize upd H1 pk (.lst [])=H3 at gk ek⊢
 have m2':=ϖb (fun _ _=>StV.mono (Same.grow g1)) m2
 refine⟨_,rfl,p,rfl,⟨xm,(g1.trans gk).seq m1⟩,?_⟩
 let Iv_1:Nat→L2.St→Hp→Prop:=(fun i σ H'=>Same H1 H'∧i≤xm.length∧(∃ x5 x6 x7 x8 x9 x10,σ=[some (.ref p),some (.ref o),some (.int n),some vd,some (.ref pk),x5,x6,x7,x8,x9,x10])∧∃zs,H' pk=some (.lst zs)∧Paired (StV K H') (kpT n (M.take i) T) zs)
 refine ϖ5 (xs:=xm) Iv_1
  ⟨gk,Nat.zero_le _,⟨_,_,_,_,_,_,rfl⟩,[],ek,.nil⟩ (fun i σ H' _ z=>(g1.trans z.1).seq m1) (fun b_ r_ hb_ hr_=>?_) ?_
 ·rintro i x σ H5 hx ⟨g5,hi,⟨x5,x6,x7,x8,x9,x10,rfl⟩,zs,ez,hP⟩
  obtain⟨t,ht,b,rfl,hb⟩:=ϖw m2' hx
  have hil:i < xm.length:=(List.getElem?_eq_some_iff.mp hx).1
  have hb1:=(Same.grow g5).seqT hb
  refine⟨b,_,rfl,hb1,rfl,_,_,rfl,_,_,rfl,_,_,rfl,_,_,rfl,rfl,?_⟩
  obtain⟨d0,kv0,e0,hd0,_⟩:=id (hD.mono g5)
  subst e0
  refine⟨_,rfl,.inr (.inr (.inl ⟨rfl,.inl ⟨kv0,hd0⟩⟩)),_,rfl,szl (by simp),fun l hl=>?_⟩
  have hlk:l≠pk:=(ϖn ez hl).symm
  have gl:=ϖe hl (.lst [])
  have el:=ϖd (H:=H5) (a:=l) (o:=.lst [])
  have ez2:=gl _ _ ez
  have hP2:=ϖb (fun _ _=>StV.mono (Same.grow gl)) hP
  have g6:=g5.trans gl
  generalize upd H5 l (.lst [])=H6 at el ez2 hP2 g6⊢
  obtain⟨d,oo,la,ys,ed,hget,hgd,hla,hpy,hor⟩:=hD.get3 (g:=t.2.1) g6 el
  injection ed with ed
  subst ed
  have hlp:la≠pk:=by
   rcases hor with z|⟨u,hu⟩
   ·rw[z];exact hlk
   ·exact ϖn hu hpk
  refine⟨d0,_,_,oo,rfl,rfl,hget,?_⟩
  rw[hgd]
  refine⟨la,rfl,⟨ys,SqL.of hla⟩,?_⟩
  have lz:(kpT n (M.take i) T).length≤9801:=by have:=ϟL n T lT (M.take i);rw[List.length_take] at this;omega
  have ly:ys.length≤99:=by rw[← hpy.length];exact Nat.le_trans (List.length_filter_le _ _) hml
  let Iv_2:Nat→L2.St→Hp→Prop:=(fun j σ H'=>Same H1 H'∧j≤ys.length∧(∃ x9 x10,σ=[some (.ref p),some (.ref o),some (.int n),some (.ref d0),some (.ref pk),some (.int t.1),some (.str t.2.1),some (.str t.2.2.1),some (.int t.2.2.2),x9,x10])∧H' la=some (.lst ys)∧GT H6 H'∧∃zs,H' pk=some (.lst zs)∧Paired (StV K H') (kpT n (M.take i) T++(((mvs T).filter (fun u=>decide (u.2.1=t.2.1))).take j).map (onT n t)) zs)
  refine ϖ5 (xs:=ys) Iv_2
   ⟨g6,Nat.zero_le _,⟨_,_,rfl⟩,hla,GT.of (Same.refl _),zs,ez2,by rw[List.take_zero,List.map_nil,List.append_nil];exact hP2⟩ (fun j σ H' _ z=>SqL.of z.2.2.2.1) (fun b_ r_ hb_ hr_=>?_) ?_
  ·rintro j y σ H7 hy ⟨g7,hj,⟨x9,x10,rfl⟩,hla7,gt7,zs,ez,hP⟩
   obtain⟨u,hu,b2,rfl,hb2⟩:=ϖw hpy hy
   have hjl:j < ys.length:=(List.getElem?_eq_some_iff.mp hy).1
   have hb27:=gt7.seqT hb2
   have hzl:zs.length≤9999:=by rw[← hP.length,List.length_append,List.length_map,List.length_take];omega
   refine⟨b2,_,rfl,hb27,rfl,_,_,rfl,_,_,rfl,rfl,?_⟩
   refine⟨_,rfl,.inl ⟨rfl,_,SqL.of ez⟩,_,rfl,_,rfl,_,_,rfl,rfl,.inr ⟨by omega,by omega⟩,_,rfl,_,_,rfl,rfl,_,rfl,_,rfl,_,rfl,_,rfl,_,_,rfl,rfl,.inr ⟨by omega,by omega⟩,_,rfl,_,_,rfl,rfl,(by show 4≤sizeLine;decide),fun p2 hp2=>?_⟩
   have gp:=ϖe hp2 (.tup [V.int (t.1*n+u.1),V.str t.2.1,V.str t.2.2.1,V.int (t.2.2.2*n+u.2.2)])
   have ep:=ϖd (H:=H7) (a:=p2) (o:=.tup [V.int (t.1*n+u.1),V.str t.2.1,V.str t.2.2.1,V.int (t.2.2.2*n+u.2.2)])
   have ez:=gp _ _ ez
   have hla7:=gp _ _ hla7
   have gt7:=gt7.trans (GT.of gp)
   have g8:=g7.trans gp
   have hP:=ϖb (fun _ _=>StV.mono (Same.grow gp)) hP
   dsimp only at hp2⊢
   generalize upd H7 p2 (.tup [V.int (t.1*n+u.1),V.str t.2.1,V.str t.2.2.1,V.int (t.2.2.2*n+u.2.2)])=H8 at ep ez hla7 gt7 g8 hP⊢
   have gt:GT H8 (upd H8 pk (.lst (zs++[.ref p2]))):=ϕQ ez (fun _ z=>nomatch z) (fun _ _ z=>nomatch z) _
   refine⟨pk,zs,_,rfl,rfl,ez,szl' (by omega),ϖv g8 hpk,hjl,⟨_,_,rfl⟩,(ϖq hlp).trans hla7,gt7.trans gt,zs++[.ref p2],ϖd,?_⟩
   rw[ϖz hu,List.map_append,← List.append_assoc]
   exact ϖt (ϖb (fun _ _=>StV.gt gt) hP) (.cons ⟨p2,rfl,gt.seqT (SqT.of ep)⟩ .nil)
  rintro σ H7 ⟨g7,_,⟨x9,x10,rfl⟩,_,_,zs,ez,hP⟩
  refine⟨g7,hil,⟨_,_,_,_,_,_,rfl⟩,zs,ez,?_⟩
  rw[← hpy.length,List.take_length] at hP
  rw[ϝu ht]
  exact hP
 rintro σ H5 ⟨g5,_,⟨x5,x6,x7,x8,x9,x10,rfl⟩,zs,ez,hP⟩
 rw[← lxm,List.take_length] at hP
 exact⟨_,rfl,q pk _ (g1.trans g5) (g1.free hpk) ⟨zs,ez,hP⟩⟩
theorem sc_kept_to:FnScope ["scribe","other","count","begins","steps","ends"] ["scribe","other"] (ϖj ϕV):=⟨rfl,rfl,rfl,by decide +kernel,rfl,by decide +kernel,by decide +kernel⟩
theorem ϡA (B:Bi mg) {ϖc ϖg:Addr} (XB:Xb K mg ϖc ϖg) (ϖW:Cal1 P w K mg base "refuse_other_signs" ["one","other"] 1 (ϵu K ϖc)) (ϑT:Cal1 P w K mg base "refuse_many_pairs" ["one","other"] 1 (ϵV K ϖg)) (ϕP:Cal P w K mg base "kept_marks" ["marks","others","count"] 2 (ϵv K)) (ϕ7:Cal P w K mg base "kept_steps" ["steps","others","count"] 3 (ϵD K)) {f:Addr}{fd:FuncData} (F:Fun K "kept_to" "kept_to" ϕV f fd):FnOk P w K mg base (CX1 P w) 4 f fd ["scribe","other"] (ϟ4 K ϖc ϖg):=by
 refine Fun.ok1 F sc_kept_to (fun vs H Q E h=>?_) (fun cdv A outer s H vs Q E hr h=>?_)
 ·obtain⟨v,s,pb,ps,pe,w,u,qb,qs,qe,rfl,_⟩:=h;rfl
 obtain⟨v,s,pb,ps,pe,w,u,qb,qs,qe,rfl,hV,hU,ls_,lu,hn,hm,qS,qT,q⟩:=h
 refine⟨_,(ϖf (ϑm (ϰG ϖW hr (by decide:1≤3) (by rfl) ϵw (ϖa (pv 0) (ϖa (pv 1) ϖh))))
   (ϖf (ϑm (ϰG ϑT hr (by decide:1≤3) (by rfl) ϵw (ϖa (pv 0) (ϖa (pv 1) ϖh))))
   (ϖf (ϖp (i:=2) sc_kept_to.nd rfl (Or.inl rfl) (ϖo (kIx (K:=K) rIxT ϖl) (pv 1) (ϖm (by rfl) B.ROOMS) (by intro _ _;rfl)))
   (ϖf (ϖp (i:=3) sc_kept_to.nd rfl (Or.inl rfl) (ϖE ϕP hr (by decide:2≤3) (by rfl) (ϖa (hs:=ϖA) (ϖo (kIx (K:=K) rIxT ϖl) (pv 0) (ϖm (by rfl) B.BEGINS) (by intro _ _;rfl)) (ϖa (hs:=ϖA) (ϖo (kIx (K:=K) rIxT ϖl) (pv 1) (ϖm (by rfl) B.BEGINS) (by intro _ _;rfl)) (ϖa (pv 2) ϖh)))))
   (ϖf (ϖp (i:=4) sc_kept_to.nd rfl (Or.inl rfl) (ϖE ϕ7 hr (by decide:3≤3) (by rfl) (ϖa (hs:=ϖA) (ϖo (kIx (K:=K) rIxT ϖl) (pv 0) (ϖm (by rfl) B.STEPS) (by intro _ _;rfl)) (ϖa (hs:=ϖA) (ϖo (kIx (K:=K) rIxT ϖl) (pv 1) (ϖm (by rfl) B.STEPS) (by intro _ _;rfl)) (ϖa (pv 2) ϖh)))))
   (ϖf (ϖp (i:=5) sc_kept_to.nd rfl (Or.inl rfl) (ϖE ϕP hr (by decide:2≤3) (by rfl) (ϖa (hs:=ϖA) (ϖo (kIx (K:=K) rIxT ϖl) (pv 0) (ϖm (by rfl) B.ENDS) (by intro _ _;rfl)) (ϖa (hs:=ϖA) (ϖo (kIx (K:=K) rIxT ϖl) (pv 1) (ϖm (by rfl) B.ENDS) (by intro _ _;rfl)) (ϖa (pv 2) ϖh)))))
   (ϖk (ϖF (ϖG (ϖa (hs:=ϖA) (ϖo (kIx (K:=K) rIxT ϖl) (pv 0) (ϖm (by rfl) B.SIGNS) (by intro _ _;rfl)) (ϖa (hs:=ϑK) (ϖu ϑq (ϖo (kIx (K:=K) rIxT ϖl) (pv 0) (ϖm (by rfl) B.ROOMS) (by intro _ _;rfl)) (pv 2)) (ϖa (pv 3) (ϖa (pv 4) (ϖa (pv 5) ϖh)))))))))))))),?_⟩
 refine⟨_,rfl,_,rfl,v,s,pb,ps,pe,w,u,qb,qs,qe,rfl,hV,hU,fun hs=>?_,fun hs=>qS hs⟩
 refine⟨_,rfl,_,rfl,v,s,pb,ps,pe,w,u,qb,qs,qe,rfl,hV,hU,hn,fun hc=>?_,fun hc=>qT hs hc⟩
 replace q:=q hs hc
 obtain⟨a,xb,xs,xe,rfl,h1,h2,h3,h4,h5,h6,h7⟩:=hV
 obtain⟨b,yb,ys,ye,rfl,k1,k2,k3,k4,k5,k6,k7⟩:=hU
 refine⟨_,rfl,_,_,_,_,rfl,rfl,k1,rfl,?_⟩
 refine⟨_,rfl,_,_,_,_,rfl,rfl,h1,rfl,_,rfl,_,_,_,_,rfl,rfl,k1,rfl,_,rfl,pb,qb,u.rooms,s.begins,u.begins,rfl,⟨xb,h2,h5⟩,⟨yb,k2,k5⟩,ls_.lb,lu.lb,hm,fun fa H1 g1 hfa wa=>?_⟩
 have t1:=Same.seqT g1 h1
 have u1:=Same.seqT g1 k1
 have m3:StLk K H1 ps s.steps:=StLk.mono g1 ⟨xs,h3,h6⟩
 have n3:StLk K H1 qs u.steps:=StLk.mono g1 ⟨ys,k3,k6⟩
 refine⟨_,rfl,_,_,_,_,rfl,rfl,t1,rfl,_,rfl,_,_,_,_,rfl,rfl,u1,rfl,_,rfl,ps,qs,u.rooms,s.steps,u.steps,rfl,m3,n3,ls_.ls,lu.ls,hm,fun fb H2 g2 hfb wb=>?_⟩
 have g12:=g1.trans g2
 have t2:=Same.seqT g12 h1
 have u2:=Same.seqT g12 k1
 have m4:MkLk K H2 pe s.ends:=MkLk.mono g12 ⟨xe,h4,h7⟩
 have n4:MkLk K H2 qe u.ends:=MkLk.mono g12 ⟨ye,k4,k7⟩
 refine⟨_,rfl,_,_,_,_,rfl,rfl,t2,rfl,_,rfl,_,_,_,_,rfl,rfl,u2,rfl,_,rfl,pe,qe,u.rooms,s.ends,u.ends,rfl,m4,n4,ls_.le,lu.le,hm,fun fc H3 g3 hfc wc=>?_⟩
 have g13:=g12.trans g3
 have t3:=Same.seqT g13 h1
 refine⟨_,rfl,_,_,_,_,rfl,rfl,t3,rfl,_,rfl,_,_,_,_,rfl,rfl,t3,rfl,_,rfl,_,_,rfl,rfl,.inl ⟨by have:=hn.1;omega,by have:=hn.2;omega⟩,_,rfl,_,rfl,_,rfl,(by show 5≤sizeLine;decide),fun v hv=>?_⟩
 have gv:=ϖe hv (.tup [V.str s.signs,V.int (s.rooms*u.rooms),V.ref fa,V.ref fb,V.ref fc])
 have ev:=ϖd (H:=H3) (a:=v) (o:=.tup [V.str s.signs,V.int (s.rooms*u.rooms),V.ref fa,V.ref fb,V.ref fc])
 dsimp only at hv⊢
 generalize upd H3 v (.tup [V.str s.signs,V.int (s.rooms*u.rooms),V.ref fa,V.ref fb,V.ref fc])=H4 at gv ev⊢
 obtain⟨za,ea,Pa⟩:=wa
 obtain⟨zb,eb,Pb⟩:=wb
 obtain⟨zc,ec,Pc⟩:=wc
 have ga:=(g2.trans g3).trans gv
 have gb:=g3.trans gv
 exact q _ _ fa fb fc (g13.trans gv) ⟨v,za,zb,zc,rfl,SqT.of ev,ga _ _ ea,gb _ _ eb,gv _ _ ec,ϖb (fun _ _=>MkV.mono (Same.grow ga)) Pa,ϖb (fun _ _=>StV.mono (Same.grow gb)) Pb,ϖb (fun _ _=>MkV.mono (Same.grow gv)) Pc⟩
  ⟨hfa,g1.free hfb,g12.free hfc,ϖn ea hfb,ϖn (g2 _ _ ea) hfc,ϖn eb hfc⟩
theorem ϱ7:FnScope ["_law_script","_law_k"] ["_law_script","_law_k"] (ϖj ϑz):=⟨rfl,rfl,rfl,by decide +kernel,rfl,by decide +kernel,by decide +kernel⟩
theorem ϵb (B:Bi mg) {ϖc ϖg:Addr} (XB:Xb K mg ϖc ϖg)  {f:Addr}{fd:FuncData} (F:Fun K "_law_cell_at" "_law_cell_at" ϑz f fd):FnOk P w K mg base CX0 1 f fd ["_law_script","_law_k"] (ϵk K):=by
 refine F.ok ϱ7 (fun vs H Q E h=>?_) (fun cdv A outer s H vs Q E hr h=>?_)
 ·obtain⟨a,ns,k,rfl,_⟩:=h;rfl
 obtain⟨a,ns,k,rfl,hS,hk,q⟩:=h
 refine⟨_,(ϖf (ϑx (ϖI op_lt (pv 1) (ϖ8 (kLen (K:=K)) (by rfl) B.len ϕZ (ϖa (pv 0) ϖh)) (ϖY _)) (ϖk (ϖF (ϖo (kIx (K:=K) rIxL ϖD) (pv 0) (pv 1) (by intro _ _;rfl)))) ϖN)
   (ϖk (ϖF ϖi))),?_⟩
 refine⟨_,rfl,_,rfl,a,_,rfl,.inl hS,_,_,rfl,rfl,_,rfl,?_⟩
 rw[List.length_map]
 refine ϕx (fun c=>?_) (fun c=>?_)
 ·obtain⟨v,h1,h2⟩:=ϛh (xs:=ns) hk c
  refine⟨_,rfl,_,rfl,a,_,_,.int v,rfl,rfl,hS,?_,?_⟩
  ·obtain⟨j,rfl⟩:=Int.eq_ofNat_of_zero_le hk
   exact ϖQ (by rw[List.getElem?_map];rw[Int.toNat_natCast] at h2;rw[h2];rfl)
  ·have e:ϵp ns k=v:=by unfold ϵp;rw[if_pos c,h2];rfl
   rw[← e];exact q
 ·have e:ϵp ns k=0:=by unfold ϵp;rw[if_neg c]
  rw[e] at q
  exact q
theorem sc_law_mixed:FnScope ["_law_cell","_law_k","_law_number"] ["_law_cell","_law_k"] (ϖj ϕi):=⟨rfl,rfl,rfl,by decide +kernel,rfl,by decide +kernel,by decide +kernel⟩
theorem ϲx (B:Bi mg) {ϖc ϖg:Addr} (XB:Xb K mg ϖc ϖg)  {f:Addr}{fd:FuncData} (F:Fun K "_law_mixed" "_law_mixed" ϕi f fd):FnOk P w K mg base CX0 1 f fd ["_law_cell","_law_k"] (ϱg):=by
 refine F.ok sc_law_mixed (fun vs H Q E h=>?_) (fun cdv A outer s H vs Q E hr h=>?_)
 ·obtain⟨c,k,rfl,_⟩:=h;rfl
 obtain⟨c,k,rfl,q⟩:=h
 refine⟨_,(ϖf (ϖp (i:=2) sc_law_mixed.nd rfl (Or.inl rfl) (ϕL (ϖu ϖ4 (ϖu ϖP (ϖu ϖP (ϖu ϑq (ϖu ϖ4 (pv 0) ϖi) ϖi) (ϖu ϑq (pv 1) ϖi)) ϖi) ϖi)))
   (ϖf (ϖp (i:=2) sc_law_mixed.nd rfl (Or.inl rfl) (ϕL (ϖu ϖ4 (ϖu ϑq (pv 2) (pv 2)) ϖi)))
   (ϖk (ϖF (ϖu ϖ4 (ϖu ϑq (pv 2) (pv 2)) ϖi))))),?_⟩
 refine⟨fun v H'=>H=H'∧ϲV 0 2147483647 v,⟨_,rfl,_,_,rfl,rfl,pz,_,_,rfl,rfl,.inr ⟨by decide,by decide⟩,_,rfl,_,_,rfl,rfl,.inr ⟨by decide,by decide⟩,_,_,rfl,rfl,_,_,rfl,rfl,_,_,rfl,rfl,pz,rfl,_,rfl,by omega,by omega⟩,?_⟩
 rintro _ _ ⟨rfl,n,rfl,h0,h1⟩
 refine⟨fun v H'=>H=H'∧ϲV 0 2147483647 v,⟨_,rfl,_,rfl,_,_,rfl,rfl,.inl ⟨by omega,by omega⟩,_,_,rfl,rfl,pz,rfl,_,rfl,by omega,by omega⟩,?_⟩
 rintro _ _ ⟨rfl,m,rfl,h2,h3⟩
 exact⟨_,rfl,_,rfl,_,_,rfl,rfl,.inl ⟨by omega,by omega⟩,_,_,rfl,rfl,pz,q _ (Int.emod_nonneg _ (by decide)) (Int.emod_lt_of_pos _ (by decide))⟩
theorem sc_law_word:FnScope ["_law_rest_here","_law_letters","_law_size","_law_word_here","_law_k"] ["_law_rest_here"] (ϖj ϕy):=⟨rfl,rfl,rfl,by decide +kernel,rfl,by decide +kernel,by decide +kernel⟩
theorem ϲX (B:Bi mg) {ϖc ϖg:Addr} (XB:Xb K mg ϖc ϖg)  {f:Addr}{fd:FuncData} (F:Fun K "_law_word" "_law_word" ϕy f fd):FnOk P w K mg base CX0 1 f fd ["_law_rest_here"] (ϡt):=by
 refine F.ok sc_law_word (fun vs H Q E h=>?_) (fun cdv A outer s H vs Q E hr h=>?_)
 ·obtain⟨a,rfl,_⟩:=h;rfl
 obtain⟨c,rfl,q⟩:=h
 refine⟨_,(ϖf (ϖp (i:=1) sc_law_word.nd rfl (Or.inl rfl) (ϖo (kIx (K:=K) ϡx ϱP) (ϑa (ϖa ϕY (ϖa ϕY (ϖa ϕY ϖh)))) (ϖu ϖ4 (pv 0) ϖi) (by intro _ _;rfl)))
   (ϖf (ϖp (i:=2) sc_law_word.nd rfl (Or.inl rfl) (ϖo (kIx (K:=K) ϡx ϱP) (ϑa (ϖa ϖi (ϖa ϖi (ϖa ϖi (ϖa ϖi (ϖa ϖi (ϖa ϖi ϖh))))))) (ϖu ϖ4 (ϖu ϖJ (pv 0) ϖi) ϖi) (by intro _ _;rfl)))
   (ϕ5 (ϑx (ϖI ϵS (ϖu ϖ4 (ϖu ϖJ (pv 0) ϖi) ϖi) ϖi (ϖY _)) (ϖf (ϖp (i:=2) sc_law_word.nd rfl (Or.inl rfl) (ϖu ϖ4 (ϖu ϖJ (pv 0) ϖi) ϖi))
   (ϖk (ϖp (i:=0) sc_law_word.nd rfl (Or.inl rfl) (ϖu ϖJ (pv 0) ϖi)))) ϖN)
   (ϖf (ϖp (i:=0) sc_law_word.nd rfl (Or.inl rfl) (ϖu ϖJ (pv 0) ϖi))
   (ϖf (ϖp (i:=3) sc_law_word.nd rfl (Or.inl rfl) ϕY)
   (ϖf (ϑd PassesOwn.never (by rfl) (ϕX (by rfl) B.range (ϖa (pv 2) ϖh)) (ϖr (i:=4) sc_law_word.nd rfl (Or.inl rfl)) (ϖf (ϖp (i:=3) sc_law_word.nd rfl (Or.inl rfl) (ϖu ϑk (pv 3) (ϖo ϵh (pv 1) (ϖu ϖ4 (ϖu ϖP (pv 0) (ϖu ϑq (pv 4) (pv 4))) (ϖ8 ϑp (by rfl) B.len ϕZ (ϖa (pv 1) ϖh))) (by intro _ _;rfl))))
   (ϖk (ϖp (i:=0) sc_law_word.nd rfl (Or.inl rfl) (ϖu ϖJ (pv 0) (ϖ8 ϑp (by rfl) B.len ϕZ (ϖa (pv 1) ϖh)))))))
   (ϖk (ϖF (pv 3))))))))),?_⟩
 refine⟨szl (by simp),fun p hp=>⟨_,rfl,_,_,rfl,rfl,pz,p,_,_,rfl,rfl,SqL.of ϖd,by omega,(by show c % 3 < 3;omega),isLet,?_,?_⟩⟩
 ·intro v hv
  simp only[List.mem_cons,List.not_mem_nil,or_false] at hv
  rcases hv with rfl|rfl|rfl<;>exact⟨_,rfl,by decide +kernel,by decide +kernel,by decide +kernel⟩
 rintro _⟨z,rfl,hz1,hz2,hzl⟩
 have g1:=ϖe hp (.lst [V.str "ab",V.str "a",V.str "abcdefghijklmnopqrstuvwxyz"])
 generalize upd H p (.lst [V.str "ab",V.str "a",V.str "abcdefghijklmnopqrstuvwxyz"])=H1 at g1⊢
 refine⟨szl (by simp),fun p2 hp2=>⟨_,rfl,_,_,rfl,rfl,⟨by decide,by decide⟩,_,_,rfl,rfl,pz,p2,_,_,rfl,rfl,SqL.of ϖd,by omega,(by show c / 3 % 6 < 6;omega),ϲV 0 4,?_,?_⟩⟩
 ·intro v hv
  simp only[List.mem_cons,List.not_mem_nil,or_false] at hv
  rcases hv with rfl|rfl|rfl|rfl|rfl|rfl<;>exact⟨_,rfl,by decide,by decide⟩
 rintro _⟨n,rfl,hn0,hn4⟩
 have g2:=g1.trans (ϖe hp2 (.lst [V.int 0,V.int 1,V.int 1,V.int 2,V.int 3,V.int 4]))
 generalize upd H1 p2 (.lst [V.int 0,V.int 1,V.int 1,V.int 2,V.int 3,V.int 4])=H2 at g2⊢
 refine⟨fun σ H'=>H2=H'∧∃n r:Int,0≤n∧n≤40∧σ=[some (.int r),some (.str z),some (.int n),none,none],?_,?_⟩
 ·refine⟨_,rfl,_,_,rfl,rfl,⟨by decide,by decide⟩,_,_,rfl,rfl,pz,rfl,_,rfl,ϕx (fun _=>?_) (fun _=>⟨rfl,n,c,hn0,by omega,rfl⟩)⟩
  refine⟨_,rfl,_,_,rfl,rfl,⟨by decide,by decide⟩,_,_,rfl,rfl,pz,?_⟩
  refine⟨_,rfl,_,_,rfl,rfl,⟨by decide,by decide⟩,?_⟩
  exact⟨rfl,c / 216 % 41,_,by omega,by omega,rfl⟩
 rintro σ H' ⟨rfl,n,r,h0,h1,rfl⟩
 refine⟨_,rfl,_,_,rfl,rfl,⟨by decide,by decide⟩,?_⟩
 refine⟨_,rfl,_,rfl,by omega,by omega,?_⟩
 let Iv_1:Nat→L2.St→Hp→Prop:=(fun i σ H'=>H2=H'∧∃(r:Int) (x:Str) (y:Option V),x.length=i∧(∀ c∈cl x,97≤c∧c≤122)∧σ=[some (.int r),some (.str z),some (.int n),some (.str x),y])
 refine ϕC Iv_1 ⟨rfl,_,"",_,rfl,cl_nil,rfl⟩ (fun b_ r_ hb_ hr_=>?_) ?_
 ·rintro i σ H' hi ⟨rfl,r2,x,y,hx,hxl,rfl⟩
  have hzp:(0:Int) < z.length∧(z.length:Int) < 1073741824:=by omega
  obtain⟨c',hc,hm⟩:=ϲy (xs:=cl z) (i:=(r2+(0+(i:Int))*(0+(i:Int))) % (z.length:Int)) (Int.emod_nonneg _ (by omega)) (by rw[ϖR];exact Int.emod_lt_of_pos _ hzp.1)
  refine⟨_,rfl,_,rfl,_,rfl,_,rfl,_,rfl,_,_,rfl,rfl,.inl ⟨by omega,by omega⟩,_,_,rfl,rfl,_,rfl,z,rfl,szl (by omega),_,_,rfl,rfl,hzp.1,z,_,c',rfl,rfl,szl (by omega),hc,_,_,rfl,rfl,szl (by rw[hx,ϡ5];omega),?_⟩
  refine⟨_,rfl,_,rfl,z,rfl,szl (by omega),_,_,rfl,rfl,hzp,?_⟩
  refine⟨rfl,_,_,_,?_,?_,rfl⟩
  ·rw[ϑi,hx];rfl
  ·intro c1 h1
   rw[ϖS] at h1
   rcases List.mem_append.mp h1 with h1|h1
   ·exact hxl c1 h1
   ·rw[ϝ7,List.mem_singleton] at h1
    subst h1;exact hzl c1 hm
 ·rintro σ H' ⟨rfl,r2,x,y,hx,hxl,rfl⟩
  refine⟨_,rfl,?_⟩
  exact q x _ ⟨by omega,hxl⟩ g2
theorem sc_law_signs:FnScope ["_law_number","_law_letters","_law_many"] ["_law_number"] (ϖj ϕb):=⟨rfl,rfl,rfl,by decide +kernel,rfl,by decide +kernel,by decide +kernel⟩
theorem ϲl (B:Bi mg) {ϖc ϖg:Addr} (XB:Xb K mg ϖc ϖg)  {f:Addr}{fd:FuncData} (F:Fun K "_law_signs" "_law_signs" ϕb f fd):FnOk P w K mg base CX0 1 f fd ["_law_number"] (ϱw):=by
 refine F.ok sc_law_signs (fun vs H Q E h=>?_) (fun cdv A outer s H vs Q E hr h=>?_)
 ·obtain⟨n,rfl,_⟩:=h;rfl
 obtain⟨m,rfl,q⟩:=h
 refine⟨_,(ϖf (ϖp (i:=1) sc_law_signs.nd rfl (Or.inr rfl) ϕY)
   (ϖf (ϖp (i:=2) sc_law_signs.nd rfl (Or.inl rfl) (ϖo (kIx (K:=K) ϡx ϱP) (ϑa (ϖa ϖi (ϖa ϖi (ϖa ϖi (ϖa ϖi (ϖa ϖi ϖh)))))) (ϖu ϖ4 (ϖu ϖJ (pv 0) ϖi) ϖi) (by intro _ _;rfl)))
   (ϖk (ϖF (kPE (K:=K) (fun k=>tBM k _ _ _ _) (ϕv PySem.F.plainAttrs_str PySem.F.slot_str_join PySem.F.type_str_join mt_join ϕY (ϖa (ϕT rfl (ϕs (N':=["_law_k","_law_letters","_law_number"]) (js:=[none,some 1,some 0]) rfl (by decide +kernel) rfl (by decide +kernel) rfl rfl) (ϕX (by rfl) B.range (ϖa (pv 2) ϖh)) (fun _ _ _ _ _=>(ϖr (i:=0) (show List.Nodup (["_law_k","_law_letters","_law_number"]:List Str) by decide +kernel) rfl (Or.inl rfl))) (fun _ _ _ _ _=>ϕr) (fun _ _ _ _ _=>(ϖo ϵh (pv 1) (ϖu ϖ4 (ϖu ϖP (pv 2) (ϖu ϑq ϖi (pv 0))) ϖi) (by intro _ _;rfl)))) ϖh))))))),?_⟩
 refine⟨szl (by simp),fun p hp=>⟨_,rfl,_,_,rfl,rfl,⟨by decide,by decide⟩,_,_,rfl,rfl,pz,p,_,_,rfl,rfl,SqL.of ϖd,by omega,(by show m / 26 % 5 < 5;omega),ϲV 1 5,?_,?_⟩⟩
 ·intro v hv
  simp only[List.mem_cons,List.not_mem_nil,or_false] at hv
  rcases hv with rfl|rfl|rfl|rfl|rfl<;>exact⟨_,rfl,by decide,by decide⟩
 rintro _⟨n,rfl,hn1,hn5⟩
 have g1:=ϖe hp (.lst [V.int 1,V.int 2,V.int 2,V.int 3,V.int 5])
 generalize upd H p (.lst [V.int 1,V.int 2,V.int 2,V.int 3,V.int 5])=H1 at g1⊢
 obtain⟨k,rfl⟩:=Int.eq_ofNat_of_zero_le (show 0≤n by omega)
 refine⟨rfl,_,rfl,_,rfl,by omega,by omega,?_⟩
 refine ϵo (fun i ys τ H'=>H1=H'∧(∃ x,τ=[x,some (.str "abcdefghijklmnopqrstuvwxyz"),some (.int m)])∧i≤5∧ys=((List.range i).map (sgC m)).map fun c=>V.str ⟨#[c]⟩) ⟨rfl,⟨_,rfl⟩,Nat.zero_le _,rfl⟩ ?_ ?_
 ·rintro i ys τ _ hi ⟨rfl,⟨x,rfl⟩,h5,rfl⟩
  have hj0:=Int.emod_nonneg (m+7*(0+(i:Int))) (show(26:Int)≠0 by decide)
  have hj1:=Int.emod_lt_of_pos (m+7*(0+(i:Int))) (show(0:Int) < 26 by decide)
  refine⟨_,rfl,_,rfl,_,rfl,_,_,rfl,rfl,.inl ⟨by decide,by decide⟩,_,_,rfl,rfl,_,_,rfl,rfl,pz,_,_,_,rfl,rfl,szl (by rw[abc_len];decide),abc_at hj0 hj1,szl' (by simp;omega),rfl,⟨_,rfl⟩,by omega,?_⟩
  rw[List.range_succ,List.map_append,List.map_append]
  unfold sgC
  rw[Int.zero_add]
  rfl
 rintro ys τ _ ⟨rfl,_,_,rfl⟩ p2 hp2
 have e:(((List.range (k:Int).toNat).map (sgC m)).map fun c=>V.str ⟨#[c]⟩)=(((List.range (k:Int).toNat).map (sgC m)).map fun c=>(⟨#[c]⟩:Str)).map V.str:=by rw[List.map_map,List.map_map,List.map_map];rfl
 refine⟨"",p2,((List.range (k:Int).toNat).map (sgC m)).map fun c=>(⟨#[c]⟩:Str),rfl,rfl,SqL.of (by rw[← e];exact ϖd),?_,?_⟩
 ·have h1:∀cs:List Nat,((cs.map fun c=>(⟨#[c]⟩:Str)).map (·.length)).sum=cs.length:=fun cs=>by
   induction cs with
   |nil=>rfl
   |cons c cs ih=>rw[List.map_cons,List.map_cons,List.sum_cons,ih,List.length_cons,ϡ5];omega
  rw[h1]
  have e0:("":Str).length=0:=by decide +kernel
  simp[e0]
  omega
 ·rw[ϝc]
  exact q _ _ (sg_ok m (by omega) (by omega)) (g1.trans (ϖe hp2 _))
theorem sc_law_rest:FnScope ["_law_script","_law_k","_law_salt","_law_cell","_law_big"] ["_law_script","_law_k","_law_salt"] (ϖj ϕB):=⟨rfl,rfl,rfl,by decide +kernel,rfl,by decide +kernel,by decide +kernel⟩
theorem ϲP (B:Bi mg) {ϖc ϖg:Addr} (XB:Xb K mg ϖc ϖg) (ϖL:Cal P w K mg base "_law_cell_at" ["_law_script","_law_k"] 1 (ϵk K)) (ϖH:Cal P w K mg base "_law_mixed" ["_law_cell","_law_k"] 1 (ϱg)) {f:Addr}{fd:FuncData} (F:Fun K "_law_rest" "_law_rest" ϕB f fd):FnOk P w K mg base CX0 2 f fd ["_law_script","_law_k","_law_salt"] (ϲ_ K):=by
 refine F.ok sc_law_rest (fun vs H Q E h=>?_) (fun cdv A outer s H vs Q E hr h=>?_)
 ·obtain⟨a,ns,k,salt,rfl,_⟩:=h;rfl
 obtain⟨a,ns,k,salt,rfl,hS,hk,s0,s1,q⟩:=h
 refine⟨_,(ϖf (ϖp (i:=3) sc_law_rest.nd rfl (Or.inl rfl) (ϖE ϖL hr (by decide:1≤1) (by rfl) (ϖa (pv 0) (ϖa (pv 1) ϖh))))
   (ϖf (ϑx (ϖI ϵS (ϖu ϖ4 (ϖE ϖL hr (by decide:1≤1) (by rfl) (ϖa (pv 0) (ϖa ϖi ϖh))) ϖi) ϖi (ϖY _)) (ϖk (ϖF (ϖu op_shr (pv 3) (ϖu ϑq (ϖu ϖJ (pv 2) ϖi) ϖi)))) ϖN)
   (ϖf (ϖp (i:=4) sc_law_rest.nd rfl (Or.inl rfl) (ϖu ϖP (ϖE ϖH hr (by decide:1≤1) (by rfl) (ϖa (pv 3) (ϖa (hs:=ϑK) (ϖu ϖP (pv 1) (pv 2)) ϖh))) (ϖu ϑq (ϖE ϖH hr (by decide:1≤1) (by rfl) (ϖa (pv 3) (ϖa (hs:=ϑK) (ϖu ϖP (ϖu ϖP (pv 1) (pv 2)) ϖi) ϖh))) ϖi)))
   (ϖk (ϖF (ϖu ϖP (pv 4) (ϖu ϑq (ϖu ϑq (ϖE ϖH hr (by decide:1≤1) (by rfl) (ϖa (pv 3) (ϖa (hs:=ϑK) (ϖu ϖP (ϖu ϖP (pv 1) (pv 2)) ϖi) ϖh))) ϖi) ϖi))))))),?_⟩
 refine⟨_,rfl,_,rfl,a,ns,k,rfl,hS,hk,?_⟩
 generalize ϵp ns k=c
 refine⟨_,rfl,a,ns,0,rfl,hS,(by decide),_,_,rfl,rfl,pz,rfl,_,rfl,?_⟩
 refine ϕx (fun _=>?_) (fun _=>?_)
 ·exact⟨_,rfl,_,rfl,_,_,rfl,rfl,⟨by decide,by decide⟩,_,_,rfl,rfl,.inr ⟨by decide,by decide⟩,_,_,rfl,rfl,(by show 0≤salt / 2000*300;omega),q _⟩
 refine⟨_,rfl,_,rfl,_,rfl,_,_,rfl,rfl,_,_,rfl,fun n1 _ _=>?_⟩
 refine⟨_,rfl,_,rfl,_,rfl,_,_,rfl,rfl,_,_,rfl,rfl,_,_,rfl,fun n2 _ _=>⟨_,_,rfl,rfl,.inr ⟨by decide,by decide⟩,_,_,rfl,rfl,?_⟩⟩
 exact⟨_,rfl,_,rfl,_,rfl,_,rfl,_,_,rfl,rfl,_,_,rfl,rfl,_,_,rfl,fun n3 _ _=>⟨_,_,rfl,rfl,.inr ⟨by decide,by decide⟩,_,_,rfl,rfl,.inr ⟨by decide,by decide⟩,_,_,rfl,rfl,q _⟩⟩
theorem sc_law_plain:FnScope ["_law_script","_law_salt","_law_most","_law_rest_here","_law_signs_here","_law_rooms","_law_begins","_law_steps","_law_ends","_law_k","_law_room","_law_sign","_law_amid"] ["_law_script","_law_salt","_law_most"] (ϖj ϕd):=⟨rfl,rfl,rfl,by decide +kernel,rfl,by decide +kernel,by decide +kernel⟩
theorem ϲp (B:Bi mg) {ϖc ϖg:Addr} (XB:Xb K mg ϖc ϖg) (ϕg:Cal P w K mg base "_law_signs" ["_law_number"] 1 (ϱw)) (ϑV:Cal P w K mg base "_law_rest" ["_law_script","_law_k","_law_salt"] 2 (ϲ_ K)) (ϑJ:Cal P w K mg base "_law_word" ["_law_rest_here"] 1 (ϡt)) {f:Addr}{fd:FuncData} (F:Fun K "_law_plain" "_law_plain" ϕd f fd):FnOk P w K mg base CX0 3 f fd ["_law_script","_law_salt","_law_most"] (ϱs K):=by
 refine F.ok sc_law_plain (fun vs H Q E h=>?_) (fun cdv A outer s H vs Q E hr h=>?_)
 ·obtain⟨a,ns,salt,most,rfl,_⟩:=h;rfl
 obtain⟨a,ns,salt,most,rfl,hS,h63,s0,s1,m0,m1,q⟩:=h
 refine⟨_,(ϖf (ϖp (i:=3) sc_law_plain.nd rfl (Or.inl rfl) (ϕL (ϖu ϖJ (ϖE ϑV hr (by decide:2≤2) (by rfl) (ϖa (pv 0) (ϖa ϖi (ϖa (pv 1) ϖh)))) ϖi)))
   (ϖf (ϖp (i:=4) sc_law_plain.nd rfl (Or.inl rfl) (ϖE ϕg hr (by decide:1≤2) (by rfl) (ϖa (pv 3) ϖh)))
   (ϖf (ϖp (i:=5) sc_law_plain.nd rfl (Or.inl rfl) (ϕL (ϖu ϖ4 (ϖu ϖJ (pv 3) ϖi) (ϖu ϖP (pv 2) ϖi))))
   (ϖf (ϖp (i:=3) sc_law_plain.nd rfl (Or.inl rfl) (ϕL (ϖu ϖJ (ϖu ϖJ (pv 3) ϖi) (ϖu ϖP (pv 2) ϖi))))
   (ϖf (ϖp (i:=6) sc_law_plain.nd rfl (Or.inl rfl) (ϑa ϖh))
   (ϕ5 (ϑx (PW.pt (ϵn (ϖI ϱn (pv 5) ϖi (ϖY _)) (ϱa (ϖI ϱn (ϖu ϖ4 (pv 3) ϖi) ϖi (ϖY _))))) (ϖk (ϖp (i:=6) sc_law_plain.nd rfl (Or.inl rfl) (ϑa (ϖa (hs:=ϱc) (ϖG (ϖa (hs:=ϑK) (ϖu ϖ4 (ϖu ϖJ (pv 3) ϖi) (pv 5)) (ϖa (hs:=ϑ7) (ϖE ϑJ hr (by decide:1≤2) (by rfl) (ϖa (hs:=ϑK) (ϖu ϖJ (ϖu ϖJ (pv 3) ϖi) (pv 5)) ϖh)) ϖh))) ϖh)))) ϖN)
   (ϖf (ϖp (i:=7) sc_law_plain.nd rfl (Or.inl rfl) ϕ0)
   (ϖf (ϖp (i:=8) sc_law_plain.nd rfl (Or.inl rfl) ϰu)
   (ϖf (ϑd PassesOwn.never (by rfl) (ϵY (by rfl) B.range (ϖa ϖi (ϖa (hs:=ϑ7) (ϖ8 (ϱX (by rfl)) (by rfl) B.min ϡT (ϖa ϖi (ϖa (hs:=ϑ7) (ϖ8 (kLen (K:=K)) (by rfl) B.len ϕZ (ϖa (pv 0) ϖh)) ϖh))) ϖh))) (ϖr (i:=9) sc_law_plain.nd rfl (Or.inl rfl)) (ϖf (ϖp (i:=3) sc_law_plain.nd rfl (Or.inl rfl) (ϕL (ϖE ϑV hr (by decide:2≤2) (by rfl) (ϖa (pv 0) (ϖa (pv 9) (ϖa (pv 1) ϖh))))))
   (ϖf (ϖp (i:=10) sc_law_plain.nd rfl (Or.inl rfl) (ϕL (ϖu ϖ4 (ϖu ϖJ (pv 3) ϖi) (ϖ8 (ϱO (by rfl)) (by rfl) B.max ϟz (ϖa (pv 5) (ϖa ϖi ϖh))))))
   (ϖk (ϑx (PW.pt (ϵn (ϖI ϱn (pv 5) ϖi (ϖY _)) (ϱa (ϖI ϵS (ϖu ϖ4 (pv 3) ϖi) ϖi (ϖY _))))) (ϖk (ϕU (ϑN hr) (pv 8) (pv 10) (ϖE ϑJ hr (by decide:1≤2) (by rfl) (ϖa (hs:=ϑK) (ϖu ϖJ (ϖu ϖJ (pv 3) ϖi) (pv 5)) ϖh)) rfl)) (ϖk (ϑx (ϖI ϱn (pv 5) ϖi (ϖY _)) (ϖf (ϖp (i:=11) sc_law_plain.nd rfl (Or.inl rfl) (ϖo ϵh (pv 4) (ϖu ϖ4 (ϖu ϖJ (ϖu ϖJ (pv 3) ϖi) (pv 5)) (ϖ8 ϑp (by rfl) B.len ϕZ (ϖa (pv 4) ϖh))) (by intro _ _;rfl)))
   (ϖf (ϖp (i:=3) sc_law_plain.nd rfl (Or.inl rfl) (ϕL (ϖu ϖJ (ϖu ϖJ (ϖu ϖJ (pv 3) ϖi) (pv 5)) (ϖ8 ϑp (by rfl) B.len ϕZ (ϖa (pv 4) ϖh)))))
   (ϖk (ϕU (ϑN hr) (pv 7) (ϖG (ϖa (pv 10) (ϖa (pv 11) ϖh))) (ϖG (ϖa (hs:=ϑ7) (ϖE ϑJ hr (by decide:1≤2) (by rfl) (ϖa (hs:=ϑK) (ϖu ϖJ (pv 3) (pv 5)) ϖh)) (ϖa (hs:=ϑK) (ϖu ϖ4 (pv 3) (pv 5)) ϖh))) rfl)))) ϖN)))))))
   (ϖf (ϕF (i:=12) sc_law_plain.nd rfl (Or.inl rfl) (by rfl) (by rfl) (ϕs (N':=["_law_pair","_law_told"]) (js:=[none,none]) rfl (by decide +kernel) rfl (by decide +kernel) rfl rfl) (ϝB (pv 7)) (fun _ _ _ _ _=>(kPG (K:=K) (fun k=>gTup k 2 _) (ϑr (n:=2) (by rfl) (ϖs (ϖr (i:=0) (show List.Nodup (["_law_pair","_law_told"]:List Str) by decide +kernel) rfl (Or.inl rfl)) (ϖs (ϖr (i:=1) (show List.Nodup (["_law_pair","_law_told"]:List Str) by decide +kernel) rfl (Or.inl rfl)) ϖ6))))) (fun _ _ _ _ _=>ϕr) (fun _ _ _ _ _=>(ϖG (ϖa (hs:=ϖA) (ϖo (kIx (K:=K) rIxT ϖl) (pv 0) ϖi (by intro _ _;rfl)) (ϖa (hs:=ϖA) (ϖo (kIx (K:=K) rIxT ϖl) (pv 0) ϖi (by intro _ _;rfl)) (ϖa (hs:=ϖA) (ϖo (kIx (K:=K) rIxT ϖl) (pv 1) ϖi (by intro _ _;rfl)) (ϖa (hs:=ϖA) (ϖo (kIx (K:=K) rIxT ϖl) (pv 1) ϖi (by intro _ _;rfl)) ϖh)))))))
   (ϖk (ϖF (ϖG (ϖa (pv 4) (ϖa (pv 5) (ϖa (pv 6) (ϖa (pv 12) (ϖa (ϕT rfl (ϕs (N':=["_law_room","_law_word_here"]) (js:=[none,none]) rfl (by decide +kernel) rfl (by decide +kernel) rfl rfl) (ϝy (pv 8)) (fun _ _ _ _ _=>(kPG (K:=K) (fun k=>gTup k 2 _) (ϑr (n:=2) (by rfl) (ϖs (ϖr (i:=0) (show List.Nodup (["_law_room","_law_word_here"]:List Str) by decide +kernel) rfl (Or.inl rfl)) (ϖs (ϖr (i:=1) (show List.Nodup (["_law_room","_law_word_here"]:List Str) by decide +kernel) rfl (Or.inl rfl)) ϖ6))))) (fun _ _ _ _ _=>ϕr) (fun _ _ _ _ _=>(ϖG (ϖa (pv 0) (ϖa (pv 1) ϖh))))) ϖh)))))))))))))))))),?_⟩
 refine⟨fun v H'=>H=H'∧∃n:Int,v=.int n,⟨_,rfl,_,rfl,a,ns,0,salt,rfl,hS,by decide,s0,s1,fun n=>⟨_,_,rfl,rfl,⟨by decide,by decide⟩,rfl,_,rfl⟩⟩,?_⟩
 rintro _ _ ⟨rfl,n0,rfl⟩
 refine⟨_,rfl,n0,rfl,fun g H1 hg g1=>?_⟩
 obtain⟨hg1,hg2,hg3,hg4⟩:=hg
 refine⟨fun v H'=>H1=H'∧ϲV 0 most v,⟨_,rfl,_,_,rfl,rfl,⟨by decide,by decide⟩,_,rfl,_,_,rfl,rfl,_,_,rfl,rfl,(by show 0 < most+1;omega),rfl,_,rfl,?_,?_⟩,?_⟩
 ·exact Int.emod_nonneg _ (by omega)
 ·have:=Int.emod_lt_of_pos (n0 / 130) (show 0 < most+1 by omega)
  omega
 rintro _ _ ⟨rfl,r,rfl,hr0,hr1⟩
 refine⟨fun v H'=>H1=H'∧∃n:Int,v=.int n,⟨_,rfl,_,_,rfl,rfl,⟨by decide,by decide⟩,_,rfl,_,_,rfl,rfl,_,_,rfl,rfl,⟨by omega,by omega⟩,rfl,_,rfl⟩,?_⟩
 rintro _ _ ⟨rfl,n1,rfl⟩
 refine⟨szl (by simp),fun pb0 hpb0=>?_⟩
 have gb0:=ϖe hpb0 (.lst [])
 have eb0:=ϖd (H:=H1) (a:=pb0) (o:=.lst [])
 generalize upd H1 pb0 (.lst [])=H2 at gb0 eb0⊢
 let Jv_1:L2.St→Hp→Prop:=fun σ' H'=>∃(pb:Addr) (xb:List V) (B:List Mk),σ'=[some (.ref a),some (.int salt),some (.int most),some (.int n1),some (.str g),some (.int r),some (.ref pb),none,none,none,none,none,none]∧Same H1 H'∧H' pb=some (.lst xb)∧Paired (MkV K H') B xb∧B.length≤1∧∀m∈B,0≤m.1∧m.1 < r∧Wd m.2
 refine⟨Jv_1,?_,?_⟩
 ·have no:∃(pb:Addr) (xb:List V) (B:List Mk),[some (V.ref a),some (V.int salt),some (V.int most),some (V.int n1),some (V.str g),some (V.int r),some (V.ref pb0),none,none,none,none,none,none]=[some (.ref a),some (.int salt),some (.int most),some (.int n1),some (.str g),some (.int r),some (.ref pb),none,none,none,none,none,none]∧Same H1 H2∧H2 pb=some (.lst xb)∧Paired (MkV K H2) B xb∧B.length≤1∧∀m∈B,0≤m.1∧m.1 < r∧Wd m.2:=⟨pb0,[],[],rfl,gb0,eb0,.nil,by simp,by simp⟩
  refine⟨_,rfl,_,_,rfl,rfl,_,rfl,ϕx (fun hr=>?_) (fun _=>no)⟩
  have hrr:0 < r∧r < 1073741824:=⟨hr,by omega⟩
  refine⟨_,rfl,_,_,rfl,rfl,pz,_,_,rfl,rfl,_,rfl,ϕx (fun c=>?_) (fun _=>no)⟩
  refine⟨_,rfl,_,_,rfl,rfl,⟨by decide,by decide⟩,_,rfl,_,_,rfl,rfl,hr,_,rfl,_,_,rfl,rfl,⟨by decide,by decide⟩,_,rfl,_,_,rfl,rfl,hrr,_,rfl,fun wd H3 hwd g3=>⟨(by show 2≤sizeLine;decide),fun t ht=>⟨szl (by simp),fun pb hpb=>?_⟩⟩⟩
  have gt:=g3.trans (ϖe ht (.tup [V.int (n1 / 8 % r),V.str wd]))
  have gp:=ϖe hpb (.lst [V.ref t])
  refine⟨pb,[.ref t],[(n1 / 8 % r,wd)],rfl,(gb0.trans gt).trans gp,ϖd,.cons ⟨t,rfl,(Same.grow gp).seqT (SqT.of ϖd)⟩ .nil,by simp,fun m hm=>?_⟩
  rw[List.mem_singleton.mp hm]
  exact⟨Int.emod_nonneg _ (by omega),Int.emod_lt_of_pos _ hr,hwd⟩
 rintro _ H3 ⟨pb,xb,B,rfl,g3,eb,hB,lB,mB⟩
 clear hpb0 gb0 eb0
 refine fun ds hds=>fun de hde=>?_
 have hde':H3 de=none:=(ϖe hds _).free hde
 have ned:ds≠de:=ϖn ϖd hde
 have PI0:PlI K H3 (upd (upd H3 ds (.dT [])) de (.dK [])) ds de g r 0:=⟨(ϖe hds (.dT [])).trans (ϖe hde (.dK [])),[],[],[],[],(ϖq ned).trans ϖd,ϖd,.nil,.nil,by simp,by simp,Nat.le_refl _,Nat.le_refl _,by simp,by simp⟩
 generalize upd (upd H3 ds (.dT [])) de (.dK [])=H4 at PI0⊢
 have g13:Same H H3:=g1.trans g3
 have hS4:SqL K H4 a (ns.map V.int):=(g13.trans PI0.same).seq hS
 refine⟨_,rfl,a,_,rfl,.inl hS4,_,_,rfl,_,_,rfl,⟨by decide,by decide,?_,?_⟩,?_⟩
 ·rw[List.length_map]
  show -(2 ^ 62:Int)≤if (ns.length:Int) < 63 then (ns.length:Int) else 63
  split<;>omega
 ·rw[List.length_map]
  show(if (ns.length:Int) < 63 then (ns.length:Int) else 63) < 2 ^ 62
  split<;>omega
 rw[List.length_map]
 have hturns:((if (ns.length:Int) < 63 then (ns.length:Int) else 63)-1).toNat≤20:=by split<;>omega
 let Iv_1:Nat→L2.St→Hp→Prop:=(fun i σ H'=>PlI K H3 H' ds de g r i∧∃x3 x9 x10 x11,σ=[some (.ref a),some (.int salt),some (.int most),x3,some (.str g),some (.int r),some (.ref pb),some (.ref ds),some (.ref de),x9,x10,x11,none])
 refine ϕC Iv_1 ⟨PI0,_,_,_,_,rfl⟩ (fun b_ r_ hb_ hr_=>?_) ?_
 ·rintro i σ H5 hi ⟨hI,x3,x9,x10,x11,rfl⟩
  have hi62:i < 20:=Nat.lt_of_lt_of_le hi hturns
  have hS5:SqL K H5 a (ns.map V.int):=(g13.trans hI.same).seq hS
  refine⟨fun v H'=>H5=H'∧∃n:Int,v=.int n,⟨_,rfl,_,rfl,_,rfl,a,ns,_,salt,rfl,hS5,by omega,s0,s1,fun n=>⟨rfl,n,rfl⟩⟩,?_⟩
  rintro _ _ ⟨rfl,n2,rfl⟩
  refine⟨fun v H'=>H5=H'∧∃n:Int,v=.int n∧0≤n∧(0 < r→n < r),⟨_,rfl,_,_,rfl,rfl,⟨by decide,by decide⟩,_,rfl,_,_,rfl,_,_,rfl,rfl,?_,rfl,_,rfl,?_,?_⟩,?_⟩
  ·split<;>omega
  ·exact Int.emod_nonneg _ (by split<;>omega)
  ·intro hr
   split<;>first|exact Int.emod_lt_of_pos _ hr|omega
  rintro _ _ ⟨rfl,ro,rfl,ro0,ro1⟩
  have stay:PlI K H3 H5 ds de g r (i+1):=hI.mono (Same.refl _) (Nat.le_succ _)
  refine⟨_,rfl,_,_,rfl,rfl,_,rfl,ϕx (fun hr=>?_) (fun hr=>?_)⟩
  rotate_left
  ·exact⟨_,rfl,_,_,rfl,rfl,_,rfl,ϕx (fun z=>absurd z hr) (fun _=>⟨stay,_,_,_,_,rfl⟩)⟩
  have hrr:0 < r∧r < 1073741824:=⟨hr,by omega⟩
  have hgl:(0:Int) < g.length∧(g.length:Int) < 1073741824:=by omega
  have ro1:=ro1 hr
  refine⟨_,rfl,_,_,rfl,rfl,pz,rfl,_,rfl,ϕx (fun c1=>?_) (fun c1=>?_)⟩
  ·refine⟨_,rfl,_,_,rfl,rfl,⟨by decide,by decide⟩,_,rfl,_,_,rfl,rfl,hrr,_,rfl,fun wd H6 hwd g6=>?_⟩
   have hI:=hI.mono g6 (Nat.le_refl _)
   obtain⟨j0,S,kvs,E',kve,j1,j2,j3,j4,j5,j6,j7,j8,j9,j10⟩:=hI
   refine⟨_,rfl,_,rfl,de,_,rfl,.inl ⟨kve,Sum.inl ro,j2,rfl,szl' (by omega),rfl⟩,?_⟩
   obtain⟨E2,k1,k2⟩:=ϵi (R:=EnM) (k:=Sum.inl ro) (v:=.str wd) (t:=(ro,wd)) rfl j4
   refine⟨⟨ϖv j0 hde',S,kvs,E2,_,(ϖq ned).trans j1,ϖd,ϖb (fun _ _=>EnS.gt (ϕQ j2 (fun _ z=>nomatch z) (fun _ _ z=>nomatch z) _)) j3,k1,j5,ϛd j6,by omega,Nat.le_trans (ϝ3 _ _ _) (by omega),j9,fun m hm=>?_⟩,_,_,_,_,rfl⟩
   rcases k2 m hm with z|z
   ·exact j10 m z
   ·rw[z];exact⟨ro0,ro1,hwd⟩
  refine⟨_,rfl,_,_,rfl,rfl,_,rfl,ϕx (fun _=>?_) (fun z=>absurd hr z)⟩
  obtain⟨sg,hc,hm⟩:=ϲy (xs:=cl g) (i:=n2 / 4 / r % (g.length:Int)) (Int.emod_nonneg _ (by omega)) (by rw[ϖR];exact Int.emod_lt_of_pos _ hgl.1)
  refine⟨_,rfl,_,rfl,_,_,rfl,rfl,⟨by decide,by decide⟩,_,rfl,_,_,rfl,rfl,hrr,_,rfl,g,rfl,szl (by omega),_,_,rfl,rfl,hgl.1,g,_,sg,rfl,rfl,szl (by omega),hc,?_⟩
  refine⟨fun v H'=>H5=H'∧∃n:Int,v=.int n,⟨_,rfl,_,_,rfl,rfl,⟨by decide,by decide⟩,_,rfl,_,_,rfl,rfl,hrr,_,rfl,g,rfl,szl (by omega),_,_,rfl,rfl,hgl,rfl,_,rfl⟩,?_⟩
  rintro _ _ ⟨rfl,n3,rfl⟩
  refine⟨_,rfl,_,rfl,_,_,rfl,rfl,hrr,_,rfl,fun wd H6 hwd g6=>⟨_,rfl,_,rfl,_,_,rfl,rfl,hr,(by show 2≤sizeLine;decide),fun t ht=>?_⟩⟩
  have gt:=g6.trans (ϖe ht (.tup [V.str wd,V.int (n3 % r)]))
  have et:=ϖd (H:=H6) (a:=t) (o:=.tup [V.str wd,V.int (n3 % r)])
  have hI:=hI.mono gt (Nat.le_refl _)
  dsimp only at ht⊢
  generalize upd H6 t (.tup [V.str wd,V.int (n3 % r)])=H7 at hI et⊢
  refine⟨_,rfl,_,rfl,_,rfl,(by show 2≤sizeLine;decide),fun kt hkt=>?_⟩
  have gk:=ϖe hkt (.tup [V.int ro,V.str ⟨#[sg]⟩])
  have ek:=ϖd (H:=H7) (a:=kt) (o:=.tup [V.int ro,V.str ⟨#[sg]⟩])
  have hI:=hI.mono gk (Nat.le_refl _)
  have et:=gk _ _ et
  dsimp only at hkt⊢
  generalize upd H7 kt (.tup [V.int ro,V.str ⟨#[sg]⟩])=H8 at hI et ek⊢
  obtain⟨j0,S,kvs,E',kve,j1,j2,j3,j4,j5,j6,j7,j8,j9,j10⟩:=hI
  refine⟨ds,_,rfl,.inr ⟨kvs,[Sum.inl ro,Sum.inr ⟨#[sg]⟩],kt,j1,rfl,ek,szl' (by omega),rfl⟩,?_⟩
  have gd:GT H8 (upd H8 ds (.dT (putK kvs [Sum.inl ro,Sum.inr ⟨#[sg]⟩] (.ref t)))):=ϕQ j1 (fun _ z=>nomatch z) (fun _ _ z=>nomatch z) _
  obtain⟨S2,k1,k2⟩:=ϵi (R:=EnS K H8) (k:=[Sum.inl ro,Sum.inr ⟨#[sg]⟩]) (v:=.ref t) (t:=(ro,⟨#[sg]⟩,wd,n3 % r)) ⟨rfl,t,rfl,SqT.of et⟩ j3
  refine⟨⟨ϖv j0 hds,S2,_,E',kve,ϖd,(ϖq ned.symm).trans j2,ϖb (fun _ _=>EnS.gt gd) k1,j4,ϛd j5,j6,Nat.le_trans (ϝ3 _ _ _) (by omega),by omega,fun x hx=>?_,j10⟩,_,_,_,_,rfl⟩
  rcases k2 x hx with z|z
  ·exact j9 x z
  ·rw[z];exact⟨ro0,ro1,⟨sg,hm,rfl⟩,hwd,Int.emod_nonneg _ (by omega),Int.emod_lt_of_pos _ hr⟩
 rintro σ H5 ⟨hI,x3,x9,x10,x11,rfl⟩
 have hI:=hI.mono (Same.refl _) hturns
 obtain⟨j0,S,kvs,E',kve,j1,j2,j3,j4,j5,j6,j7,j8,j9,j10⟩:=hI
 have lS:S.length=kvs.length:=j3.length
 have lE:E'.length=kve.length:=j4.length
 refine⟨_,rfl,ds,kvs,rfl,j1,fun o=>?_⟩
 have gd:GT H5 (upd H5 ds (.frz o (.dT kvs))):=ϕQ j1 (fun _ z=>nomatch z) (fun _ _ z=>nomatch z) _
 have e1:=ϖd (H:=H5) (a:=ds) (o:=.frz o (.dT kvs))
 have e2:upd H5 ds (.frz o (.dT kvs)) de=some (.dK kve):=(ϖq ned.symm).trans j2
 have g5:Same H3 (upd H5 ds (.frz o (.dT kvs))):=ϖv j0 hds
 have j3:=ϖb (fun _ _=>EnS.gt gd) j3
 generalize upd H5 ds (.frz o (.dT kvs))=H6 at e1 e2 g5 j3⊢
 refine ϡN (kvs:=kvs) (fun i ys τ H'=>Same H6 H'∧(∃ x y,τ=[x,y])∧i≤kvs.length∧Paired (StV K H') (S.take i) ys) ⟨Same.refl _,⟨_,_,rfl⟩,Nat.zero_le _,.nil⟩ (fun i ys τ H' z=>z.1 _ _ e1) ?_ ?_
 ·rintro i k y p b ys τ H' hkv ⟨g7,⟨x0,y0,rfl⟩,hil,hP⟩ hp hb
  obtain⟨t,ht,hk,b2,hy,hb2⟩:=ϖw j3 hkv
  have hk:k=keyT t:=hk
  have hy:y=.ref b2:=hy
  subst hk hy
  have hil:i < kvs.length:=(List.getElem?_eq_some_iff.mp hkv).1
  have gp:=ϖe hp (.tup [V.ref b,V.ref b2])
  have ep:=ϖd (H:=H') (a:=p) (o:=.tup [V.ref b,V.ref b2])
  have hb:=gp _ _ hb
  have g7:=g7.trans gp
  have hP:=ϖb (fun _ _=>StV.mono (Same.grow gp)) hP
  generalize upd H' p (.tup [V.ref b,V.ref b2])=H7 at gp ep hb g7 hP⊢
  have hb2:=(Same.grow g7).seqT hb2
  have hb:SqT K H7 b [.int t.1,.str t.2.1]:=SqT.of hb
  have hyl:ys.length≤999:=by rw[← hP.length,List.length_take];omega
  refine⟨p,_,rfl,SqT.of ep,rfl,_,_,rfl,_,_,rfl,rfl,?_⟩
  refine⟨_,rfl,_,_,_,_,rfl,rfl,hb,rfl,_,rfl,_,_,_,_,rfl,rfl,hb,rfl,_,rfl,_,_,_,_,rfl,rfl,hb2,rfl,_,rfl,_,_,_,_,rfl,rfl,hb2,rfl,(by show 4≤sizeLine;decide),fun p2 hp2=>⟨szl' (by omega),g7.trans (ϖe hp2 _),⟨_,_,rfl⟩,hil,?_⟩⟩
  rw[ϖz ht]
  exact ϖt (ϖb (fun _ _=>StV.mono (ϕw hp2 _)) hP) (.cons ⟨p2,rfl,SqT.of ϖd⟩ .nil)
 rintro xs τ H7 ⟨g7,_,_,hP⟩ ps hps
 rw[← lS,List.take_length] at hP
 have gs:=ϖe hps (.lst xs)
 have es:=ϖd (H:=H7) (a:=ps) (o:=.lst xs)
 have g8:=g7.trans gs
 have hP:=ϖb (fun _ _=>StV.mono (Same.grow gs)) hP
 generalize upd H7 ps (.lst xs)=H8 at es g8 hP⊢
 have e2:=g8 _ _ e2
 have g38:Same H3 H8:=g5.trans g8
 have npd:ps≠de:=fun z=>by rw[z,e2] at es;cases es
 refine⟨_,rfl,_,rfl,_,rfl,_,rfl,_,rfl,de,kve,rfl,e2,fun o2=>?_⟩
 have gd2:GT H8 (upd H8 de (.frz o2 (.dK kve))):=ϕQ e2 (fun _ z=>nomatch z) (fun _ _ z=>nomatch z) _
 have e3:=ϖd (H:=H8) (a:=de) (o:=.frz o2 (.dK kve))
 have es2:upd H8 de (.frz o2 (.dK kve)) ps=some (.lst xs):=(ϖq npd).trans es
 have hP:=ϖb (fun _ _=>StV.gt gd2) hP
 have g39:Same H3 (upd H8 de (.frz o2 (.dK kve))):=ϖv g38 hde'
 generalize upd H8 de (.frz o2 (.dK kve))=H9 at e3 es2 hP g39⊢
 refine ϡz (kvs:=kve) (fun i ys τ H'=>Same H9 H'∧(∃ x y,τ=[x,y])∧i≤kve.length∧Paired (MkV K H') (E'.take i) ys) ⟨Same.refl _,⟨_,_,rfl⟩,Nat.zero_le _,.nil⟩ (fun i ys τ H' z=>z.1 _ _ e3) ?_ ?_
 ·rintro i k y p ys τ H' hkv ⟨g10,⟨x0,y0,rfl⟩,hil,hR⟩ hp
  obtain⟨m,hm,hk⟩:=ϖw j4 hkv
  have hk:(k,y)=(Sum.inl m.1,V.str m.2):=hk
  injection hk with hk1 hk2
  subst hk1 hk2
  have hil:i < kve.length:=(List.getElem?_eq_some_iff.mp hkv).1
  have gp:=ϖe hp (.tup [kV (Sum.inl m.1),V.str m.2])
  have ep:=ϖd (H:=H') (a:=p) (o:=.tup [kV (Sum.inl m.1),V.str m.2])
  have g10:=g10.trans gp
  have hR:=ϖb (fun _ _=>MkV.mono (Same.grow gp)) hR
  generalize upd H' p (.tup [kV (Sum.inl m.1),V.str m.2])=H10 at ep g10 hR⊢
  have hyl:ys.length≤999:=by rw[← hR.length,List.length_take];omega
  refine⟨p,_,rfl,SqT.of ep,rfl,_,_,rfl,_,_,rfl,rfl,?_⟩
  refine⟨_,rfl,_,rfl,(by show 2≤sizeLine;decide),fun p2 hp2=>⟨szl' (by omega),g10.trans (ϖe hp2 _),⟨_,_,rfl⟩,hil,?_⟩⟩
  rw[ϖz hm]
  exact ϖt (ϖb (fun _ _=>MkV.mono (ϕw hp2 _)) hR) (.cons ⟨p2,rfl,SqT.of ϖd⟩ .nil)
 rintro ye τ H10 ⟨g10,_,_,hR⟩ pe hpe
 rw[← lE,List.take_length] at hR
 have ge:=ϖe hpe (.lst ye)
 have ee:=ϖd (H:=H10) (a:=pe) (o:=.lst ye)
 have g11:=g10.trans ge
 have hR:=ϖb (fun _ _=>MkV.mono (Same.grow ge)) hR
 generalize upd H10 pe (.lst ye)=H11 at ee g11 hR⊢
 refine⟨(by show 5≤sizeLine;decide),fun v hv=>?_⟩
 have gv:=ϖe hv (.tup [V.str g,V.int r,V.ref pb,V.ref ps,V.ref pe])
 have g12:=g11.trans gv
 have g3z:=g39.trans g12
 have po:=ϟ_ j3 j5
 have pn:(E'.map (·.1)).Nodup:=by
  rw[ϱ3 (f:=fun m:Mk=>(Sum.inl m.1:Key)) (fun m kv h=>by rw[h]) j4] at j6
  have e:(E'.map fun m:Mk=>(Sum.inl m.1:Key))=(E'.map (·.1)).map Sum.inl:=by rw[List.map_map];rfl
  rw[e] at j6
  exact List.Pairwise.of_map _ (fun a b z y=>z (by rw[y])) j6
 exact q _ _ ⟨g,r,B,S,E'⟩ pb ps pe ⟨g13.trans g3z,⟨v,xb,xs,ye,rfl,SqT.of ϖd,SqL.of (g3z _ _ eb),SqL.of (g12 _ _ es2),SqL.of (gv _ _ ee),ϖb (fun _ _=>MkV.mono (Same.grow g3z)) hB,ϖb (fun _ _=>StV.mono (Same.grow g12)) hP,ϖb (fun _ _=>MkV.mono (Same.grow gv)) hR⟩,
  ⟨Nat.le_trans lB (by decide),by show S.length≤20;omega,by show E'.length≤20;omega,mB,j9,j10,ϵ3 lB,List.Pairwise.of_map _ (fun a b z y=>z (by rw[y])) po,List.Pairwise.of_map _ (fun a b z y=>z (by rw[y])) pn,fun _=>lB,fun _=>po,fun _=>pn⟩,hr0,(by show r≤14;omega),hg1,hg2,hg3,hg4⟩ hr1
theorem sc_law_choices:FnScope ["_law_script","_law_salt","_law_most","_law_rest_here","_law_signs_here","_law_rooms","_law_lists","_law_k","_law_way","_law_room","_law_told","_law_to"] ["_law_script","_law_salt","_law_most"] (ϖj ϑI):=⟨rfl,rfl,rfl,by decide +kernel,rfl,by decide +kernel,by decide +kernel⟩
theorem ϱ_ (B:Bi mg) {ϖc ϖg:Addr} (XB:Xb K mg ϖc ϖg) (ϕg:Cal P w K mg base "_law_signs" ["_law_number"] 1 (ϱw)) (ϑV:Cal P w K mg base "_law_rest" ["_law_script","_law_k","_law_salt"] 2 (ϲ_ K)) (ϑJ:Cal P w K mg base "_law_word" ["_law_rest_here"] 1 (ϡt)) {f:Addr}{fd:FuncData} (F:Fun K "_law_choices" "_law_choices" ϑI f fd):FnOk P w K mg base CX0 3 f fd ["_law_script","_law_salt","_law_most"] (ϲ2 K):=by
 refine F.ok sc_law_choices (fun vs H Q E h=>?_) (fun cdv A outer s H vs Q E hr h=>?_)
 ·obtain⟨a,ns,salt,most,rfl,_⟩:=h;rfl
 obtain⟨a,ns,salt,most,rfl,hS,h63,s0,s1,m0,m1,q⟩:=h
 refine⟨_,(ϖf (ϖp (i:=3) sc_law_choices.nd rfl (Or.inl rfl) (ϕL (ϖu ϖJ (ϖE ϑV hr (by decide:2≤2) (by rfl) (ϖa (pv 0) (ϖa ϖi (ϖa (pv 1) ϖh)))) ϖi)))
   (ϖf (ϖp (i:=4) sc_law_choices.nd rfl (Or.inl rfl) (ϖE ϕg hr (by decide:1≤2) (by rfl) (ϖa (pv 3) ϖh)))
   (ϖf (ϖp (i:=5) sc_law_choices.nd rfl (Or.inl rfl) (ϕL (ϖu ϖ4 (ϖu ϖJ (pv 3) ϖi) (ϖu ϖP (pv 2) ϖi))))
   (ϖf (ϖp (i:=6) sc_law_choices.nd rfl (Or.inl rfl) (ϑa (ϖa (hs:=ϱ2) (ϑa ϖh) (ϖa (hs:=ϱ2) (ϑa ϖh) (ϖa (hs:=ϱ2) (ϑa ϖh) ϖh)))))
   (ϖf (ϑd PassesOwn.never (by rfl) (ϵY (by rfl) B.range (ϖa ϖi (ϖa (hs:=ϑ7) (ϖ8 (ϱX (by rfl)) (by rfl) B.min ϡT (ϖa ϖi (ϖa (hs:=ϑ7) (ϖ8 (kLen (K:=K)) (by rfl) B.len ϕZ (ϖa (pv 0) ϖh)) ϖh))) ϖh))) (ϖr (i:=7) sc_law_choices.nd rfl (Or.inl rfl)) (ϖf (ϖp (i:=3) sc_law_choices.nd rfl (Or.inl rfl) (ϕL (ϖE ϑV hr (by decide:2≤2) (by rfl) (ϖa (pv 0) (ϖa (pv 7) (ϖa (pv 1) ϖh))))))
   (ϖf (ϖp (i:=8) sc_law_choices.nd rfl (Or.inl rfl) (ϖo (kIx (K:=K) ϡx ϱP) (ϑa (ϖa ϖi (ϖa ϖi (ϖa ϖi (ϖa ϖi (ϖa ϖi (ϖa ϖi (ϖa ϖi (ϖa ϖi ϖh))))))))) (ϖu ϖ4 (pv 3) ϖi) (by intro _ _;rfl)))
   (ϖf (ϖp (i:=3) sc_law_choices.nd rfl (Or.inl rfl) (ϕL (ϖu ϖJ (pv 3) ϖi)))
   (ϖk (ϑx (ϖI ϱn (pv 5) ϖi (ϖY _)) (ϖf (ϖp (i:=9) sc_law_choices.nd rfl (Or.inl rfl) (ϕL (ϖu ϖ4 (pv 3) (pv 5))))
   (ϖf (ϖp (i:=3) sc_law_choices.nd rfl (Or.inl rfl) (ϕL (ϖu ϖJ (pv 3) (pv 5))))
   (ϖf (ϖp (i:=10) sc_law_choices.nd rfl (Or.inl rfl) (ϖG (ϖa (pv 9) (ϖa (hs:=ϑ7) (ϖE ϑJ hr (by decide:1≤2) (by rfl) (ϖa (pv 3) ϖh)) ϖh))))
   (ϕ5 (ϑx (ϖI ϵS (pv 8) ϖi (ϖY _)) (ϖf (ϖp (i:=11) sc_law_choices.nd rfl (Or.inl rfl) (ϕL (ϖu ϖ4 (ϖu ϖJ (pv 3) (ϖ8 ϑp (by rfl) B.len ϕZ (ϖa (pv 4) ϖh))) (pv 5))))
   (ϖk (ϖp (i:=10) sc_law_choices.nd rfl (Or.inl rfl) (ϖG (ϖa (pv 9) (ϖa (hs:=ϖA) (ϖo ϵh (pv 4) (ϖu ϖ4 (pv 3) (ϖ8 ϑp (by rfl) B.len ϕZ (ϖa (pv 4) ϖh))) (by intro _ _;rfl)) (ϖa (hs:=ϑ7) (ϖE ϑJ hr (by decide:1≤2) (by rfl) (ϖa (hs:=ϑK) (ϖu ϖJ (ϖu ϖJ (pv 3) (ϖ8 ϑp (by rfl) B.len ϕZ (ϖa (pv 4) ϖh))) (pv 5)) ϖh)) (ϖa (pv 11) ϖh)))))))) ϖN)
   (ϖk (ϑx (ϖI (kOp (K:=K) (rInD · true) (ϱT hr.units)) (pv 10) (ϖo (kIx (K:=K) rIxL ϖD) (pv 6) (pv 8) (by intro _ _;rfl)) rfl) (ϖk (ϑm (kPE (K:=K) (fun k=>tBM k _ _ _ _) (ϕv PySem.F.plainAttrs_list PySem.F.slot_list_append PySem.F.type_list_append ϑh (ϖo (kIx (K:=K) rIxL ϖD) (pv 6) (pv 8) (by intro _ _;rfl)) (ϖa (pv 10) ϖh))))) ϖN)))))) ϖN))))))
   (ϖk (ϖF (ϖG (ϖa (pv 4) (ϖa (pv 5) (ϖa (hs:=ϖA) (ϖo (kIx (K:=K) rIxL ϖD) (pv 6) ϖi (by intro _ _;rfl)) (ϖa (hs:=ϖA) (ϖo (kIx (K:=K) rIxL ϖD) (pv 6) ϖi (by intro _ _;rfl)) (ϖa (hs:=ϖA) (ϖo (kIx (K:=K) rIxL ϖD) (pv 6) ϖi (by intro _ _;rfl)) ϖh))))))))))))),?_⟩
 refine⟨fun v H'=>H=H'∧∃n:Int,v=.int n,⟨_,rfl,_,rfl,a,ns,0,salt,rfl,hS,by decide,s0,s1,fun n=>⟨_,_,rfl,rfl,⟨by decide,by decide⟩,rfl,_,rfl⟩⟩,?_⟩
 rintro _ _ ⟨rfl,n0,rfl⟩
 refine⟨_,rfl,n0,rfl,fun g H1 hg g1=>?_⟩
 obtain⟨hg1,hg2,hg3,hg4⟩:=hg
 refine⟨fun v H'=>H1=H'∧ϲV 0 most v,⟨_,rfl,_,_,rfl,rfl,⟨by decide,by decide⟩,_,rfl,_,_,rfl,rfl,_,_,rfl,rfl,(by show 0 < most+1;omega),rfl,_,rfl,?_,?_⟩,?_⟩
 ·exact Int.emod_nonneg _ (by omega)
 ·have:=Int.emod_lt_of_pos (n0 / 130) (show 0 < most+1 by omega)
  omega
 rintro _ _ ⟨rfl,r,rfl,hr0,hr1⟩
 refine⟨szl (by simp),fun pb hpb=>?_⟩
 refine⟨szl (by simp),fun ps hps=>?_⟩
 refine⟨szl (by simp),fun pe hpe=>?_⟩
 refine⟨szl (by simp),fun pl hpl=>?_⟩
 have hps':H1 ps=none:=(ϖe hpb _).free hps
 have hpe':upd H1 pb (.lst []) pe=none:=(ϖe hps _).free hpe
 have hpl':upd (upd H1 pb (.lst [])) ps (.lst []) pl=none:=(ϖe hpe _).free hpl
 have hpl'':upd H1 pb (.lst []) pl=none:=(ϖe hps _).free hpl'
 have AP:Apart H pb ps pe:=⟨g1.free hpb,g1.free hps',g1.free ((ϖe hpb _).free hpe'),ϖn ϖd hps,ϖn ϖd hpe',ϖn ϖd hpe⟩
 have lb:pl≠pb:=(ϖn ϖd hpl'').symm
 have lS:pl≠ps:=(ϖn ϖd hpl').symm
 have le:pl≠pe:=(ϖn ϖd hpl).symm
 have HI0:HI K H pb ps pe false g r 0 (upd (upd (upd (upd H1 pb (.lst [])) ps (.lst [])) pe (.lst [])) pl (.lst [.ref pb,.ref ps,.ref pe])):=
  ⟨[],[],[],[],[],[],(((g1.trans (ϖe hpb _)).trans (ϖe hps _)).trans (ϖe hpe _)).trans (ϖe hpl _),by rw[ϖq lb.symm,ϖq AP.be,ϖq AP.bs];exact ϖd,by rw[ϖq lS.symm,ϖq AP.se];exact ϖd,by rw[ϖq le.symm];exact ϖd,.nil,.nil,.nil,
   ⟨Nat.zero_le _,Nat.zero_le _,Nat.zero_le _,by simp,by simp,by simp,by simp,by simp,by simp,fun _=>Nat.zero_le _,fun _=>by simp,fun _=>by simp⟩⟩
 have el0:=ϖd (H:=upd (upd (upd H1 pb (.lst [])) ps (.lst [])) pe (.lst [])) (a:=pl) (o:=.lst [.ref pb,.ref ps,.ref pe])
 generalize upd (upd (upd (upd H1 pb (.lst [])) ps (.lst [])) pe (.lst [])) pl (.lst [.ref pb,.ref ps,.ref pe])=H3 at HI0 el0⊢
 have hS3:SqL K H3 a (ns.map V.int):=by obtain⟨_,_,_,_,_,_,z,_⟩:=HI0;exact z.seq hS
 refine⟨_,rfl,a,_,rfl,.inl hS3,_,_,rfl,_,_,rfl,⟨by decide,by decide,?_,?_⟩,?_⟩
 ·rw[List.length_map]
  show -(2 ^ 62:Int)≤if (ns.length:Int) < 63 then (ns.length:Int) else 63
  split<;>omega
 ·rw[List.length_map]
  show(if (ns.length:Int) < 63 then (ns.length:Int) else 63) < 2 ^ 62
  split<;>omega
 rw[List.length_map]
 have hturns:((if (ns.length:Int) < 63 then (ns.length:Int) else 63)-1).toNat≤20:=by split<;>omega
 let Iv_1:Nat→L2.St→Hp→Prop:=(fun i σ H'=>HI K H pb ps pe false g r i H'∧H' pl=some (.lst [.ref pb,.ref ps,.ref pe])∧∃x3 x7 x8 x9 x10 x11,σ=[some (.ref a),some (.int salt),some (.int most),x3,some (.str g),some (.int r),some (.ref pl),x7,x8,x9,x10,x11])
 refine ϕC Iv_1 ⟨HI0,el0,_,_,_,_,_,_,rfl⟩ (fun b_ r_ hb_ hr_=>?_) ?_
 ·rintro i σ H4 hi ⟨hI,el,x3,x7,x8,x9,x10,x11,rfl⟩
  have hi62:i < 20:=Nat.lt_of_lt_of_le hi hturns
  have hS4:SqL K H4 a (ns.map V.int):=by obtain⟨_,_,_,_,_,_,z,_⟩:=hI;exact z.seq hS
  refine⟨fun v H'=>H4=H'∧∃n:Int,v=.int n,⟨_,rfl,_,rfl,_,rfl,a,ns,_,salt,rfl,hS4,by omega,s0,s1,fun n=>⟨rfl,n,rfl⟩⟩,?_⟩
  rintro _ _ ⟨rfl,n1,rfl⟩
  refine⟨szl (by simp),fun p hp=>⟨_,rfl,_,_,rfl,rfl,pz,p,_,_,rfl,rfl,SqL.of ϖd,by omega,(by show n1 % 8 < 8;omega),ϲV 0 2,?_,?_⟩⟩
  ·intro v hv
   simp only[List.mem_cons,List.not_mem_nil,or_false] at hv
   rcases hv with rfl|rfl|rfl|rfl|rfl|rfl|rfl|rfl<;>exact⟨_,rfl,by decide,by decide⟩
  rintro _⟨way,rfl,hw0,hw2⟩
  have gp:=ϖe hp (.lst [V.int 0,V.int 1,V.int 1,V.int 1,V.int 1,V.int 1,V.int 2,V.int 2])
  have hI:=hI.mono gp (Nat.le_refl _)
  have el:=gp _ _ el
  generalize upd H4 p (.lst [V.int 0,V.int 1,V.int 1,V.int 1,V.int 1,V.int 1,V.int 2,V.int 2])=H5 at hI el⊢
  refine⟨fun v H'=>H5=H'∧∃n:Int,v=.int n,⟨_,rfl,_,_,rfl,rfl,⟨by decide,by decide⟩,rfl,_,rfl⟩,?_⟩
  rintro _ _ ⟨rfl,n2,rfl⟩
  refine⟨_,rfl,_,_,rfl,rfl,_,rfl,ϕx (fun hr=>?_) (fun _=>⟨hI.mono (Same.refl _) (Nat.le_succ _),el,_,_,_,_,_,_,rfl⟩)⟩
  have hrr:0 < r∧r < 1073741824:=⟨hr,by omega⟩
  refine⟨fun v H'=>H5=H'∧∃n:Int,v=.int n∧0≤n∧n < r,⟨_,rfl,_,rfl,_,_,rfl,rfl,hr,rfl,_,rfl,Int.emod_nonneg _ (by omega),Int.emod_lt_of_pos _ hr⟩,?_⟩
  rintro _ _ ⟨rfl,ro,rfl,ro0,ro1⟩
  refine⟨fun v H'=>H5=H'∧∃n:Int,v=.int n,⟨_,rfl,_,rfl,_,_,rfl,rfl,hrr,rfl,_,rfl⟩,?_⟩
  rintro _ _ ⟨rfl,n3,rfl⟩
  refine⟨_,rfl,_,rfl,n3,rfl,fun wd H6 hwd g6=>⟨(by show 2≤sizeLine;decide),fun t ht=>?_⟩⟩
  have gt:=g6.trans (ϖe ht (.tup [V.int ro,V.str wd]))
  have et:=ϖd (H:=H6) (a:=t) (o:=.tup [V.int ro,V.str wd])
  have hI:=hI.mono gt (Nat.le_refl _)
  have el:=gt _ _ el
  dsimp only at ht⊢
  generalize upd H6 t (.tup [V.int ro,V.str wd])=H7 at hI el et⊢
  have hgl:(0:Int) < g.length∧(g.length:Int) < 1073741824:=by omega
  refine⟨fun σ' H'=>∃t' x11,σ'=[some (.ref a),some (.int salt),some (.int most),some (.int n3),some (.str g),some (.int r),some (.ref pl),some (.int (1+(i:Int))),some (.int way),some (.int ro),some (.ref t'),x11]∧HI K H pb ps pe false g r i H'∧H' pl=some (.lst [.ref pb,.ref ps,.ref pe]) ∧
    ((¬ way=1∧∃wd,Wd wd∧SqT K H' t' [.int ro,.str wd])∨(way=1∧∃sg wd to,sg∈cl g∧Wd wd∧0≤to∧to < r∧SqT K H' t' [.int ro,.str ⟨#[sg]⟩,.str wd,.int to])),?_,?_⟩
  ·refine⟨_,rfl,rfl,_,rfl,ϕx (fun c=>?_) (fun c=>⟨t,_,rfl,hI,el,.inl ⟨fun z=>c (by rw[z]),wd,hwd,SqT.of et⟩⟩)⟩
   have c:way=1:=by injection c
   refine⟨fun v H'=>H7=H'∧∃n:Int,v=.int n∧0≤n∧n < r,⟨_,rfl,_,rfl,g,rfl,szl (by omega),_,_,rfl,rfl,hgl,_,rfl,_,_,rfl,rfl,hr,rfl,_,rfl,Int.emod_nonneg _ (by omega),Int.emod_lt_of_pos _ hr⟩,?_⟩
   rintro _ _ ⟨rfl,to,rfl,to0,to1⟩
   obtain⟨sg,hc,hm⟩:=ϲy (xs:=cl g) (i:=n3 % (g.length:Int)) (Int.emod_nonneg _ (by omega)) (by rw[ϖR];exact Int.emod_lt_of_pos _ hgl.1)
   refine⟨_,rfl,_,rfl,_,rfl,_,rfl,g,rfl,szl (by omega),_,_,rfl,rfl,hgl.1,g,_,sg,rfl,rfl,szl (by omega),hc,_,rfl,_,rfl,g,rfl,szl (by omega),_,_,rfl,rfl,hgl,_,rfl,_,_,rfl,rfl,hrr,_,rfl,fun wd2 H8 hwd2 g8=>⟨_,rfl,(by show 4≤sizeLine;decide),fun t2 ht2=>?_⟩⟩
   have gt2:=g8.trans (ϖe ht2 (.tup [V.int ro,V.str ⟨#[sg]⟩,V.str wd2,V.int to]))
   exact⟨t2,_,rfl,hI.mono gt2 (Nat.le_refl _),gt2 _ _ el,.inr ⟨c,sg,wd2,to,hm,hwd2,to0,to1,SqT.of ϖd⟩⟩
  rintro _ H8 ⟨t',x11',rfl,hI,el,hcase⟩
  obtain⟨B,S,E',xb,xs,xe,i1,i2,i3,i4,i5,i6,i7,i8⟩:=hI
  have stay:HI K H pb ps pe false g r (i+1) H8:=HI.mono ⟨B,S,E',xb,xs,xe,i1,i2,i3,i4,i5,i6,i7,i8⟩ (Same.refl _) (Nat.le_succ _)
  have hw:way=0∨way=1∨way=2:=by omega
  rcases hw with rfl|rfl|rfl
  ·obtain⟨_,wd,hwd,hT⟩:¬ (0:Int)=1∧∃wd,Wd wd∧SqT K H8 t' [.int ro,.str wd]:=by
    rcases hcase with z|z
    ·exact z
    ·exact absurd z.1 (by decide)
   have hat:atI [V.ref pb,V.ref ps,V.ref pe] 0=some (.ref pb):=rfl
   refine⟨_,rfl,_,rfl,_,rfl,_,_,_,_,rfl,rfl,SqL.of el,hat,dMk (ro,wd),pb,xb,B.map dMk,MkV.rep ⟨t',rfl,hT⟩,rfl,SqL.of i2,ϰy (m:=(ro,wd)) i5,Nat.le_trans (ϑy dMk 1 ϰw B) (by decide),_,rfl,iteB (fun z=>?_) (fun _=>⟨stay,el,_,_,_,_,_,_,rfl⟩)⟩
   have z':(!((B.map dMk).any fun e=>eqD e (dMk (ro,wd))))=true:=z
   rw[ϰI dMk ϵE] at z'
   have hlx:xb.length < sizeLine:=by have:=i5.length;have:B.length≤i:=i8.lb;exact szl' (by omega)
   refine⟨_,rfl,_,rfl,_,_,_,_,rfl,rfl,SqL.of el,hat,.inl ⟨rfl,_,SqL.of i2⟩,_,rfl,pb,xb,.ref t',rfl,rfl,i2,hlx,?_,(ϖq lb).trans el,_,_,_,_,_,_,rfl⟩
   exact HI.addBegin AP i1 i2 i3 i4 i5 i6 i7 (i8.begin ro0 ro1 hwd (by simpa using z') (fun h=>nomatch h)) ⟨t',rfl,hT⟩
  ·obtain⟨_,sg,wd,to,hsg,hwd,to0,to1,hT⟩:(1:Int)=1∧∃sg wd to,sg∈cl g∧Wd wd∧0≤to∧to < r∧SqT K H8 t' [.int ro,.str ⟨#[sg]⟩,.str wd,.int to]:=by
    rcases hcase with z|z
    ·exact absurd rfl z.1
    ·exact z
   have hat:atI [V.ref pb,V.ref ps,V.ref pe] 1=some (.ref ps):=rfl
   refine⟨_,rfl,_,rfl,_,rfl,_,_,_,_,rfl,rfl,SqL.of el,hat,dSt (ro,⟨#[sg]⟩,wd,to),ps,xs,S.map dSt,StV.rep ⟨t',rfl,hT⟩,rfl,SqL.of i3,ϵW i6,Nat.le_trans (ϑy dSt 1 ϱB S) (by decide),_,rfl,iteB (fun z=>?_) (fun _=>⟨stay,el,_,_,_,_,_,_,rfl⟩)⟩
   have z':(!((S.map dSt).any fun e=>eqD e (dSt (ro,⟨#[sg]⟩,wd,to))))=true:=z
   rw[ϰI dSt ϡ1] at z'
   have hlx:xs.length < sizeLine:=by have:=i6.length;have:S.length≤i:=i8.ls;exact szl' (by omega)
   refine⟨_,rfl,_,rfl,_,_,_,_,rfl,rfl,SqL.of el,hat,.inl ⟨rfl,_,SqL.of i3⟩,_,rfl,ps,xs,.ref t',rfl,rfl,i3,hlx,?_,(ϖq lS).trans el,_,_,_,_,_,_,rfl⟩
   exact HI.addStep AP i1 i2 i3 i4 i5 i6 i7 (i8.step ro0 ro1 ⟨sg,hsg,rfl⟩ hwd to0 to1 (by simpa using z') (fun h=>nomatch h)) ⟨t',rfl,hT⟩
  ·obtain⟨_,wd,hwd,hT⟩:¬ (2:Int)=1∧∃wd,Wd wd∧SqT K H8 t' [.int ro,.str wd]:=by
    rcases hcase with z|z
    ·exact z
    ·exact absurd z.1 (by decide)
   have hat:atI [V.ref pb,V.ref ps,V.ref pe] 2=some (.ref pe):=rfl
   refine⟨_,rfl,_,rfl,_,rfl,_,_,_,_,rfl,rfl,SqL.of el,hat,dMk (ro,wd),pe,xe,E'.map dMk,MkV.rep ⟨t',rfl,hT⟩,rfl,SqL.of i4,ϰy (m:=(ro,wd)) i7,Nat.le_trans (ϑy dMk 1 ϰw E') (by decide),_,rfl,iteB (fun z=>?_) (fun _=>⟨stay,el,_,_,_,_,_,_,rfl⟩)⟩
   have z':(!((E'.map dMk).any fun e=>eqD e (dMk (ro,wd))))=true:=z
   rw[ϰI dMk ϵE] at z'
   have hlx:xe.length < sizeLine:=by have:=i7.length;have:E'.length≤i:=i8.le;exact szl' (by omega)
   refine⟨_,rfl,_,rfl,_,_,_,_,rfl,rfl,SqL.of el,hat,.inl ⟨rfl,_,SqL.of i4⟩,_,rfl,pe,xe,.ref t',rfl,rfl,i4,hlx,?_,(ϖq le).trans el,_,_,_,_,_,_,rfl⟩
   exact HI.addEnd AP i1 i2 i3 i4 i5 i6 i7 (i8.end_ ro0 ro1 hwd (by simpa using z') (fun h=>nomatch h)) ⟨t',rfl,hT⟩
 rintro σ H4 ⟨hI,el,x3,x7,x8,x9,x10,x11,rfl⟩
 have hI:HI K H pb ps pe false g r 20 H4:=hI.mono (Same.refl _) (by omega)
 obtain⟨B,S,E',xb,xs,xe,i1,i2,i3,i4,i5,i6,i7,i8⟩:=hI
 refine⟨_,rfl,_,rfl,_,rfl,_,_,_,_,rfl,rfl,SqL.of el,rfl,_,rfl,_,_,_,_,rfl,rfl,SqL.of el,rfl,_,rfl,_,_,_,_,rfl,rfl,SqL.of el,rfl,(by show 5≤sizeLine;decide),fun v hv=>?_⟩
 have gv:=ϖe hv (.tup [V.str g,V.int r,V.ref pb,V.ref ps,V.ref pe])
 exact q _ _ ⟨g,r,B,S,E'⟩ pb ps pe ⟨i1.trans gv,⟨v,xb,xs,xe,rfl,SqT.of ϖd,SqL.of (gv _ _ i2),SqL.of (gv _ _ i3),SqL.of (gv _ _ i4),ϖb (fun _ _=>MkV.mono (Same.grow gv)) i5,ϖb (fun _ _=>StV.mono (Same.grow gv)) i6,ϖb (fun _ _=>MkV.mono (Same.grow gv)) i7⟩,
  i8,hr0,(by show r≤14;omega),hg1,hg2,hg3,hg4⟩ hr1
theorem sc_law_twofold:FnScope ["_law_script","_law_salt","_law_number","_law_signs_here","_law_rooms","_law_begins","_law_steps","_law_ends","_law_lead","_law_turn","_law_k","_law_lists","_law_c","_law_room","_law_word_here","_law_low","_law_sign","_law_high","_law_d","_law_told"] ["_law_script","_law_salt"] (ϖj ϑB):=⟨rfl,rfl,rfl,by decide +kernel,rfl,by decide +kernel,by decide +kernel⟩
theorem ϵa (B:Bi mg) {ϖc ϖg:Addr} (XB:Xb K mg ϖc ϖg) (ϖH:Cal P w K mg base "_law_mixed" ["_law_cell","_law_k"] 1 (ϱg)) (ϕa:Cal P w K mg base "_law_plain" ["_law_script","_law_salt","_law_most"] 3 (ϱs K)) (ϖL:Cal P w K mg base "_law_cell_at" ["_law_script","_law_k"] 1 (ϵk K)) {f:Addr}{fd:FuncData} (F:Fun K "_law_twofold" "_law_twofold" ϑB f fd):FnOk P w K mg base CX0 4 f fd ["_law_script","_law_salt"] (ϱQ K):=by
 refine F.ok sc_law_twofold (fun vs H Q E h=>?_) (fun cdv A outer s H vs Q E hr h=>?_)
 ·obtain⟨a,ns,salt,rfl,_⟩:=h;rfl
 obtain⟨a,ns,salt,rfl,hS,h63,s0,s1,q⟩:=h
 refine⟨_,(ϖf (ϖp (i:=2) sc_law_twofold.nd rfl (Or.inl rfl) (ϖE ϖH hr (by decide:1≤3) (by rfl) (ϖa (hs:=ϑ7) (ϖE ϖL hr (by decide:1≤3) (by rfl) (ϖa (pv 0) (ϖa ϖi ϖh))) (ϖa (hs:=ϑK) (ϖu ϖP (pv 1) ϖi) ϖh))))
   (ϖf (ϝU (ϖE ϕa hr (by decide:3≤3) (by rfl) (ϖa (pv 0) (ϖa (pv 1) (ϖa ϖi ϖh)))) (kPG (K:=K) (fun k=>gTup k 5 _) (ϑr (n:=5) (by rfl) (ϖs (ϖr (i:=3) sc_law_twofold.nd rfl (Or.inl rfl)) (ϖs (ϖr (i:=4) sc_law_twofold.nd rfl (Or.inl rfl)) (ϖs (ϖr (i:=5) sc_law_twofold.nd rfl (Or.inl rfl)) (ϖs (ϖr (i:=6) sc_law_twofold.nd rfl (Or.inl rfl)) (ϖs (ϖr (i:=7) sc_law_twofold.nd rfl (Or.inl rfl)) ϖ6))))))))
   (ϖf (ϖp (i:=8) sc_law_twofold.nd rfl (Or.inl rfl) (ϖo ϵh ϕY (ϖu ϖ4 (pv 2) ϖi) (by intro _ _;rfl)))
   (ϖf (ϖp (i:=9) sc_law_twofold.nd rfl (Or.inl rfl) (ϑa ϖh))
   (ϖf (ϑd PassesOwn.never (by rfl) (ϕX (by rfl) B.range (ϖa (hs:=ϑK) (ϖu ϑq ϖi (pv 4)) ϖh)) (ϖr (i:=10) sc_law_twofold.nd rfl (Or.inl rfl)) (ϖk (ϑm (kPE (K:=K) (fun k=>tBM k _ _ _ _) (ϕv PySem.F.plainAttrs_list PySem.F.slot_list_insert PySem.F.type_list_insert ϟG (pv 9) (ϖa (hs:=ϑK) (ϖu ϖ4 (ϖE ϖH hr (by decide:1≤3) (by rfl) (ϖa (pv 2) (ϖa (hs:=ϑK) (ϖu ϖP (ϖu ϖP (pv 1) ϖi) (pv 10)) ϖh))) (ϖu ϖP (pv 10) ϖi)) (ϖa (pv 10) ϖh)))))))
   (ϖf (ϖp (i:=11) sc_law_twofold.nd rfl (Or.inl rfl) (ϑa (ϖa (hs:=ϱ2) (ϑa ϖh) (ϖa (hs:=ϱ2) (ϑa ϖh) (ϖa (hs:=ϱ2) (ϑa ϖh) ϖh)))))
   (ϖf (ϑd PassesOwn.never (by rfl) (ϕX (by rfl) B.range (ϖa ϖi ϖh)) (ϖr (i:=12) sc_law_twofold.nd rfl (Or.inl rfl)) (ϖf (ϑd PassesOwn.never (by rfl) (kPI (K:=K) (fun k=>ϑ3 k _) (ϖZ (pv 5))) (kPG (K:=K) (fun k=>gTup k 2 _) (ϑr (n:=2) (by rfl) (ϖs (ϖr (i:=13) sc_law_twofold.nd rfl (Or.inl rfl)) (ϖs (ϖr (i:=14) sc_law_twofold.nd rfl (Or.inl rfl)) ϖ6)))) (ϖk (ϑx (ϖI ϱn (ϖu ϖ4 (ϖE ϖH hr (by decide:1≤3) (by rfl) (ϖa (pv 2) (ϖa (hs:=ϑK) (ϖu ϖP (ϖu ϖP (pv 1) ϖi) (pv 12)) ϖh))) ϖi) ϖi (ϖY _)) (ϖk (ϑm (kPE (K:=K) (fun k=>tBM k _ _ _ _) (ϕv PySem.F.plainAttrs_list PySem.F.slot_list_append PySem.F.type_list_append ϑh (ϖo (kIx (K:=K) rIxL ϖD) (pv 11) ϖi (by intro _ _;rfl)) (ϖa (hs:=ϱc) (ϖG (ϖa (hs:=ϖA) (ϖo (kIx (K:=K) rIxL ϖD) (pv 9) (ϖu ϖP (pv 13) (ϖu ϑq (pv 12) (pv 4))) (by intro _ _;rfl)) (ϖa (hs:=ϑK) (ϖu ϑk (ϕk ϱm (pv 14) ϕS (ϕo ϖi)) (ϖu ϱM (pv 8) (pv 12))) ϖh))) ϖh))))) ϖN)))
   (ϖf (ϑd PassesOwn.never (by rfl) (kPI (K:=K) (fun k=>ϑ3 k _) (ϖZ (pv 7))) (kPG (K:=K) (fun k=>gTup k 2 _) (ϑr (n:=2) (by rfl) (ϖs (ϖr (i:=13) sc_law_twofold.nd rfl (Or.inl rfl)) (ϖs (ϖr (i:=14) sc_law_twofold.nd rfl (Or.inl rfl)) ϖ6)))) (ϖk (ϑx (ϖI ϱn (ϖu ϖ4 (ϖE ϖH hr (by decide:1≤3) (by rfl) (ϖa (pv 2) (ϖa (hs:=ϑK) (ϖu ϖP (ϖu ϖP (ϖu ϖP (pv 1) ϖi) (ϖu ϑq ϖi (pv 12))) (pv 13)) ϖh))) ϖi) ϖi (ϖY _)) (ϖk (ϑm (kPE (K:=K) (fun k=>tBM k _ _ _ _) (ϕv PySem.F.plainAttrs_list PySem.F.slot_list_append PySem.F.type_list_append ϑh (ϖo (kIx (K:=K) rIxL ϖD) (pv 11) ϖi (by intro _ _;rfl)) (ϖa (hs:=ϱc) (ϖG (ϖa (hs:=ϖA) (ϖo (kIx (K:=K) rIxL ϖD) (pv 9) (ϖu ϖP (pv 13) (ϖu ϑq (pv 12) (pv 4))) (by intro _ _;rfl)) (ϖa (hs:=ϖA) (ϕk ϱm (ϖu ϑk (pv 8) (ϕk ϱm (pv 14) ϕS (ϕo ϖi))) (ϕo (pv 12)) ϕS) ϖh))) ϖh))))) ϖN)))
   (ϖk (ϑd PassesOwn.never (by rfl) (kPI (K:=K) (fun k=>ϑ3 k _) (ϖZ (pv 6))) (kPG (K:=K) (fun k=>gTup k 4 _) (ϑr (n:=4) (by rfl) (ϖs (ϖr (i:=15) sc_law_twofold.nd rfl (Or.inl rfl)) (ϖs (ϖr (i:=16) sc_law_twofold.nd rfl (Or.inl rfl)) (ϖs (ϖr (i:=14) sc_law_twofold.nd rfl (Or.inl rfl)) (ϖs (ϖr (i:=17) sc_law_twofold.nd rfl (Or.inl rfl)) ϖ6)))))) (ϖk (ϑd PassesOwn.never (by rfl) (ϕX (by rfl) B.range (ϖa ϖi ϖh)) (ϖr (i:=18) sc_law_twofold.nd rfl (Or.inl rfl)) (ϖk (ϑx (ϖI ϱn (ϖu ϖ4 (ϖE ϖH hr (by decide:1≤3) (by rfl) (ϖa (pv 2) (ϖa (hs:=ϑK) (ϖu ϖP (ϖu ϖP (ϖu ϖP (ϖu ϖP (ϖu ϖP (pv 1) ϖi) (ϖu ϑq ϖi (pv 12))) (ϖu ϑq ϖi (pv 15))) (pv 17)) (ϖu ϑq ϖi (pv 18))) ϖh))) ϖi) ϖi (ϖY _)) (ϖf (ϖp (i:=19) sc_law_twofold.nd rfl (Or.inl rfl) (ϖu ϑk (ϕk ϱm (ϖu ϑk (pv 8) (ϕk ϱm (pv 14) ϕS (ϕo ϖi))) (ϕo (pv 12)) ϕS) (ϖu ϱM (pv 8) (pv 18))))
   (ϖk (ϑm (kPE (K:=K) (fun k=>tBM k _ _ _ _) (ϕv PySem.F.plainAttrs_list PySem.F.slot_list_append PySem.F.type_list_append ϑh (ϖo (kIx (K:=K) rIxL ϖD) (pv 11) ϖi (by intro _ _;rfl)) (ϖa (hs:=ϱc) (ϖG (ϖa (hs:=ϖA) (ϖo (kIx (K:=K) rIxL ϖD) (pv 9) (ϖu ϖP (pv 15) (ϖu ϑq (pv 12) (pv 4))) (by intro _ _;rfl)) (ϖa (pv 16) (ϖa (pv 19) (ϖa (hs:=ϖA) (ϖo (kIx (K:=K) rIxL ϖD) (pv 9) (ϖu ϖP (pv 17) (ϖu ϑq (pv 18) (pv 4))) (by intro _ _;rfl)) ϖh))))) ϖh)))))) ϖN)))))))))
   (ϖk (ϖF (ϖG (ϖa (pv 3) (ϖa (hs:=ϑK) (ϖu ϑq ϖi (pv 4)) (ϖa (hs:=ϖA) (ϖo (kIx (K:=K) rIxL ϖD) (pv 11) ϖi (by intro _ _;rfl)) (ϖa (hs:=ϖA) (ϖo (kIx (K:=K) rIxL ϖD) (pv 11) ϖi (by intro _ _;rfl)) (ϖa (hs:=ϖA) (ϖo (kIx (K:=K) rIxL ϖD) (pv 11) ϖi (by intro _ _;rfl)) ϖh))))))))))))))),?_⟩
 refine⟨_,rfl,a,ns,0,rfl,hS,by decide,_,rfl,_,_,rfl,rfl,_,_,rfl,fun n n0 n1=>?_⟩
 refine⟨_,rfl,_,rfl,a,ns,salt,4,rfl,hS,h63,s0,s1,by decide,by decide,fun v H1 s pb ps pe hnew r4=>?_⟩
 obtain⟨g1,hV,ok,r0,_,sg1,sg5,_,_⟩:=hnew
 obtain⟨av,xb,xs,xe,rfl,h1,h2,h3,h4,h5,h6,h7⟩:=hV
 have okR:(∀ m∈s.begins,0≤m.1∧m.1 < s.rooms)∧(∀ t∈s.steps,0≤t.1∧t.1 < s.rooms∧0≤t.2.2.2∧t.2.2.2 < s.rooms)∧∀m∈s.ends,0≤m.1∧m.1 < s.rooms:=⟨fun m hm=>⟨(ok.mb m hm).1,(ok.mb m hm).2.1⟩,fun t ht=>⟨(ok.ms t ht).1,(ok.ms t ht).2.1,(ok.ms t ht).2.2.2.2.1,(ok.ms t ht).2.2.2.2.2⟩,fun m hm=>⟨(ok.me m hm).1,(ok.me m hm).2.1⟩⟩
 have ndb:(s.begins.map fun m:Mk=>m.1).Nodup:=ϵ3 (by rw[List.length_map];exact ok.pb rfl)
 have nds:(s.steps.map fun t:Stp=>(t.1,t.2.1)).Nodup:=ok.po rfl
 have nde:(s.ends.map fun m:Mk=>m.1).Nodup:=ok.pe rfl
 refine⟨av,_,rfl,h1,rfl,_,_,rfl,_,_,rfl,_,_,rfl,_,_,rfl,_,_,rfl,rfl,?_⟩
 obtain⟨ch,hch,_⟩:=ϲy (xs:=cl (Str.ofString "abz")) (i:=n % 3) (Int.emod_nonneg _ (by decide)) (by show n % 3 < 3;exact Int.emod_lt_of_pos _ (by decide))
 refine⟨_,rfl,_,_,rfl,rfl,pz,_,_,ch,rfl,rfl,by decide +kernel,hch,?_⟩
 have hld:(⟨#[ch]⟩:Str).length=1:=rfl
 generalize (⟨#[ch]⟩:Str)=ld at hld⊢
 refine⟨szl (by simp),fun lt hlt=>?_⟩
 have kt:=ϖe hlt (.lst [])
 have elt0:=ϖd (H:=H1) (a:=lt) (o:=.lst [])
 generalize upd H1 lt (.lst [])=H2 at kt elt0⊢
 refine⟨_,rfl,_,_,rfl,rfl,.inl ⟨by omega,by omega⟩,_,rfl,by omega,by omega,?_⟩
 let Iv_1:Nat→L2.St→Hp→Prop:=(fun i σ H'=>Same H1 H'∧(∃ x10,σ=[some (.ref a),some (.int salt),some (.int n),some (.str s.signs),some (.int s.rooms),some (.ref pb),some (.ref ps),some (.ref pe),some (.str ld),some (.ref lt),x10,none,none,none,none,none,none,none,none,none])∧∃T:List Int,H' lt=some (.lst (T.map V.int))∧T.length=i∧T.Nodup∧∀r∈T,0≤r∧r < (i:Int))
 refine ϕC Iv_1
  ⟨kt,⟨_,rfl⟩,[],elt0,rfl,List.nodup_nil,(fun _ h=>nomatch h)⟩ (fun b_ r_ hb_ hr_=>?_) ?_
 ·rintro i σ H3 hi ⟨g3,⟨x10,rfl⟩,T,elt,lT,ndT,bT⟩
  have hi8:i < 8:=by omega
  refine⟨_,rfl,.inl ⟨rfl,_,SqL.of elt⟩,_,rfl,_,rfl,_,_,rfl,rfl,_,rfl,_,_,rfl,rfl,_,_,rfl,fun z z0 z1=>?_⟩
  refine⟨_,rfl,_,_,rfl,rfl,_,_,rfl,rfl,(by show 0 < 0+(i:Int)+1;omega),_,rfl,lt,_,_,_,rfl,rfl,elt,⟨?_,?_⟩,szl' (by rw[List.length_map];omega),?_⟩
  ·have:=Int.emod_nonneg z (show 0+(i:Int)+1≠0 by omega)
   omega
  ·have:=Int.emod_lt_of_pos z (show 0 < 0+(i:Int)+1 by omega)
   omega
  have hn:(0+(i:Int))∉T:=fun z=>by have:=bT _ z;omega
  obtain⟨k,hk⟩:∃k,k=ϵR (T.map V.int).length (z % (0+(i:Int)+1)):=⟨_,rfl⟩
  refine⟨ϖv g3 hlt,⟨_,rfl⟩,T.take k++(0+(i:Int))::T.drop k,?_,?_,?_,?_⟩
  ·rw[ϖd,List.map_append,List.map_cons,List.map_take,List.map_drop,hk]
  ·rw[List.length_append,List.length_cons,List.length_take,List.length_drop];omega
  ·have hp:(T.take k++(0+(i:Int))::T.drop k).Perm ((0+(i:Int))::T):=by
    have:=List.perm_middle (a:=0+(i:Int)) (l₁:=T.take k) (l₂:=T.drop k)
    rw[List.take_append_drop] at this
    exact this
   exact hp.nodup_iff.mpr (List.nodup_cons.mpr ⟨hn,ndT⟩)
  ·intro r hr
   rcases List.mem_append.mp hr with h|h
   ·have:=bT r (List.mem_of_mem_take h);omega
   ·rcases List.mem_cons.mp h with h|h
    ·omega
    ·have:=bT r (List.mem_of_mem_drop h);omega
 rintro σ H3 ⟨g3,⟨x10,rfl⟩,T,elt,lT,ndT,bT⟩
 have ht:Trn s.rooms T:=⟨by rw[lT];omega,ndT,fun r hr=>by have:=bT r hr;omega⟩
 clear kt elt0 lT ndT bT
 refine⟨szl (by simp),fun lb hlb=>⟨szl (by simp),fun ls hls=>⟨szl (by simp),fun le hle=>⟨szl (by simp),fun ll hll=>?_⟩⟩⟩⟩
 have kb:=ϖe hlb (.lst [])
 have ks:=ϖe hls (.lst [])
 have ke:=ϖe hle (.lst [])
 have kl:=ϖe hll (.lst [V.ref lb,V.ref ls,V.ref le])
 have eb0:=ϖd (H:=H3) (a:=lb) (o:=.lst [])
 have es0:=ϖd (H:=upd H3 lb (.lst [])) (a:=ls) (o:=.lst [])
 have ee0:=ϖd (H:=upd (upd H3 lb (.lst [])) ls (.lst [])) (a:=le) (o:=.lst [])
 have bs:lb≠ls:=ϖn eb0 hls
 have be:lb≠le:=ϖn (ks _ _ eb0) hle
 have se:ls≠le:=ϖn es0 hle
 have llb:ll≠lb:=(ϖn (ke _ _ (ks _ _ eb0)) hll).symm
 have lls:ll≠ls:=(ϖn (ke _ _ es0) hll).symm
 have lle:ll≠le:=(ϖn ee0 hll).symm
 have tlb:lt≠lb:=ϖn elt hlb
 have tls:lt≠ls:=ϖn (kb _ _ elt) hls
 have tle:lt≠le:=ϖn (ks _ _ (kb _ _ elt)) hle
 have hlb0:H1 lb=none:=g3.free hlb
 have hls0:H1 ls=none:=(g3.trans kb).free hls
 have hle0:H1 le=none:=((g3.trans kb).trans ks).free hle
 have eb1:=kl _ _ (ke _ _ (ks _ _ eb0))
 have es1:=kl _ _ (ke _ _ es0)
 have ee1:=kl _ _ ee0
 have g4:=(((g3.trans kb).trans ks).trans ke).trans kl
 have elt4:=kl _ _ (ke _ _ (ks _ _ (kb _ _ elt)))
 have ell4:=ϖd (H:=upd (upd (upd H3 lb (.lst [])) ls (.lst [])) le (.lst [])) (a:=ll) (o:=.lst [V.ref lb,V.ref ls,V.ref le])
 generalize upd (upd (upd (upd H3 lb (.lst [])) ls (.lst [])) le (.lst [])) ll (.lst [V.ref lb,V.ref ls,V.ref le])=H4 at eb1 es1 ee1 g4 elt4 ell4⊢
 clear kb ks ke kl eb0 es0 ee0 hlb hls hle hll elt g3
 refine⟨_,rfl,by decide,by decide,?_⟩
 let Iv_2:Nat→L2.St→Hp→Prop:=(fun c σ H'=>(∃ x12 x13 x14 x15 x16 x17 x18 x19,σ=[some (.ref a),some (.int salt),some (.int n),some (.str s.signs),some (.int s.rooms),some (.ref pb),some (.ref ps),some (.ref pe),some (.str ld),some (.ref lt),x10,some (.ref ll),x12,x13,x14,x15,x16,x17,x18,x19])∧c≤2∧Same H1 H'∧H' lt=some (.lst (T.map V.int))∧H' ll=some (.lst [.ref lb,.ref ls,.ref le])∧∃(B:List Mk) (S:List Stp) (E:List Mk) (zb zs ze:List V),H' lb=some (.lst zb)∧H' ls=some (.lst zs)∧H' le=some (.lst ze)∧Paired (MkV K H') B zb∧Paired (StV K H') S zs∧Paired (MkV K H') E ze∧MI s.rooms T s.begins c 0 B∧SI s.rooms T s.steps c 0 0 S∧MI s.rooms T s.ends c 0 E)
 refine ϕC Iv_2
  ⟨⟨_,_,_,_,_,_,_,_,rfl⟩,by decide,g4,elt4,ell4,[],[],[],[],[],[],eb1,es1,ee1,.nil,.nil,.nil,MI.nil,SI.nil,MI.nil⟩ (fun b_ r_ hb_ hr_=>?_) ?_
 rotate_left
 ·rintro σ H5 ⟨⟨x12,x13,x14,x15,x16,x17,x18,x19,rfl⟩,_,⟨g5,elt,ell,B,S,E,zb,zs,ze,eb,es,ee,pB,pS,pE,iB,iS,iE⟩⟩
  refine⟨_,rfl,_,rfl,_,_,rfl,rfl,.inl ⟨by omega,by omega⟩,_,rfl,ll,_,_,.ref lb,rfl,rfl,SqL.of ell,rfl,_,rfl,ll,_,_,.ref ls,rfl,rfl,SqL.of ell,rfl,_,rfl,ll,_,_,.ref le,rfl,rfl,SqL.of ell,rfl,(by show 5≤sizeLine;decide),fun v hv=>?_⟩
  have gv:=ϖe hv (.tup [V.str s.signs,V.int (2*s.rooms),V.ref lb,V.ref ls,V.ref le])
  exact q _ _ ⟨s.signs,2*s.rooms,B,S,E⟩ lb ls le ((g1.trans g5).trans gv) ⟨v,zb,zs,ze,rfl,SqT.of ϖd,SqL.of (gv _ _ eb),SqL.of (gv _ _ es),SqL.of (gv _ _ ee),ϖb (fun _ _=>MkV.mono (Same.grow gv)) pB,ϖb (fun _ _=>StV.mono (Same.grow gv)) pS,ϖb (fun _ _=>MkV.mono (Same.grow gv)) pE⟩ (ϡF ok r0 r4 sg1 sg5 ht iB iS iE)
 rintro c σ H5 hc2 ⟨⟨x12,x13,x14,x15,x16,x17,x18,x19,rfl⟩,_,⟨g5,elt,ell,B,S,E,zb,zs,ze,eb,es,ee,pB,pS,pE,iB,iS,iE⟩⟩
 have hc:c < 2:=hc2
 refine⟨_,rfl,pb,rfl,⟨xb,g5.seq h2⟩,?_⟩
 let Iv_3:Nat→L2.St→Hp→Prop:=(fun i σ H'=>(∃ x13 x14,σ=[some (.ref a),some (.int salt),some (.int n),some (.str s.signs),some (.int s.rooms),some (.ref pb),some (.ref ps),some (.ref pe),some (.str ld),some (.ref lt),x10,some (.ref ll),some (.int (0+(c:Int))),x13,x14,x15,x16,x17,x18,x19])∧Same H1 H'∧H' lt=some (.lst (T.map V.int))∧H' ll=some (.lst [.ref lb,.ref ls,.ref le])∧∃(B:List Mk) (S:List Stp) (E:List Mk) (zb zs ze:List V),H' lb=some (.lst zb)∧H' ls=some (.lst zs)∧H' le=some (.lst ze)∧Paired (MkV K H') B zb∧Paired (StV K H') S zs∧Paired (MkV K H') E ze∧MI s.rooms T s.begins c i B∧SI s.rooms T s.steps c 0 0 S∧MI s.rooms T s.ends c 0 E)
 refine ϖ5 (xs:=xb) Iv_3
  ⟨⟨_,_,rfl⟩,g5,elt,ell,B,S,E,zb,zs,ze,eb,es,ee,pB,pS,pE,iB,iS,iE⟩ (fun i σ H' _ z=>z.2.1.seq h2) (fun b_ r_ hb_ hr_=>?_) ?_
 ·clear g5 elt ell eb es ee pB pS pE iB iS iE B S E zb zs ze
  rintro i y σ H5 hy ⟨⟨x13',x14',rfl⟩,⟨g5,elt,ell,B,S,E,zb,zs,ze,eb,es,ee,pB,pS,pE,iB,iS,iE⟩⟩
  obtain⟨m,hm,bm,rfl,hbm⟩:=ϖw h5 hy
  have hmm:=List.mem_of_getElem? hm
  have hbm:=Same.seqT g5 hbm
  have b1:=okR.1 m hmm
  have lw:=(ok.mb m hmm).2.2.1
  have hz:=pB.length
  have hli:=iB.ln
  have hi62:i < 20:=by have:=(List.getElem?_eq_some_iff.mp hm).1;have:=ok.lb;omega
  refine⟨bm,_,rfl,hbm,rfl,_,_,rfl,_,_,rfl,rfl,?_⟩
  refine⟨_,rfl,_,rfl,_,_,rfl,rfl,_,rfl,_,_,rfl,rfl,_,_,rfl,fun z z0 z1=>⟨_,_,rfl,rfl,pz,_,_,rfl,rfl,_,rfl,ϕx (fun _=>?_) (fun _=>⟨⟨_,_,rfl⟩,g5,elt,ell,B,S,E,zb,zs,ze,eb,es,ee,pB,pS,pE,iB.skip,iS,iE⟩)⟩⟩
  have k:=cR (R:=s.rooms) (c:=c) (c':=c) b1.1 b1.2 b1.1 b1.2 hc hc
  have hat:atI (T.map V.int) (m.1+(0+(c:Int))*s.rooms)=some (.int (tn T (m.1+(c:Int)*s.rooms))):=by rw[Int.zero_add];exact ϟ7 ht k.1.1 k.1.2
  have w1:=sl_38 (z:=m.2)
  have w2:=ϛR (z:=ld) hld (c:=0+(c:Int)) (by omega)
  refine⟨_,rfl,ll,_,_,.ref lb,rfl,rfl,SqL.of ell,rfl,.inl ⟨rfl,_,SqL.of eb⟩,_,rfl,_,rfl,_,rfl,_,rfl,_,_,rfl,rfl,.inl ⟨by omega,by omega⟩,_,_,rfl,rfl,lt,_,_,.int (tn T (m.1+(c:Int)*s.rooms)),rfl,rfl,SqL.of elt,hat,_,rfl,_,rfl,_,rfl,szl (by omega),_,rfl,_,rfl,_,_,rfl,rfl,by omega,by omega,by omega,_,_,rfl,rfl,szl (by omega),(by show 2≤sizeLine;decide),fun tt htt=>?_⟩
  have hW:(Txt.slice m.2 none (some 38)++Txt.mul ld (0+(c:Int))).length≤40:=by rw[ϑi];omega
  dsimp only at htt⊢
  generalize Txt.slice m.2 none (some 38)++Txt.mul ld (0+(c:Int))=W at hW htt⊢
  have k1:=ϖe htt (.tup [V.int (tn T (m.1+(c:Int)*s.rooms)),V.str W])
  have et:=ϖd (H:=H5) (a:=tt) (o:=.tup [V.int (tn T (m.1+(c:Int)*s.rooms)),V.str W])
  generalize upd H5 tt (.tup [V.int (tn T (m.1+(c:Int)*s.rooms)),V.str W])=H6 at k1 et⊢
  have ez6:=k1 _ _ eb
  have gt:=ϕj ez6 (.lst (zb++[.ref tt]))
  have gr:=Grow.trans (Same.grow k1) gt
  refine⟨lb,zb,.ref tt,rfl,rfl,ez6,szl' (by omega),?_⟩
  exact⟨⟨_,_,rfl⟩,ϖv (g5.trans k1) hlb0,(ϖq tlb).trans (k1 _ _ elt),(ϖq llb).trans (k1 _ _ ell),B++[(tn T (m.1+(c:Int)*s.rooms),W)],S,E,zb++[.ref tt],zs,ze,ϖd,(ϖq bs.symm).trans (k1 _ _ es),(ϖq be.symm).trans (k1 _ _ ee),ϖt (ϖb (fun _ _=>MkV.mono gr) pB) (.cons ⟨tt,rfl,gt.seqT (SqT.of et)⟩ .nil),ϖb (fun _ _=>StV.mono gr) pS,ϖb (fun _ _=>MkV.mono gr) pE,iB.add ht hc (fun m hm=>okR.1 m hm) ndb hm hW,iS,iE⟩
 rintro σ H5 ⟨⟨x13,x14,rfl⟩,⟨g5,elt,ell,B,S,E,zb,zs,ze,eb,es,ee,pB,pS,pE,iB,iS,iE⟩⟩
 rw[← h5.length] at iB
 replace iB:=iB.next ok.lb
 refine⟨_,rfl,pe,rfl,⟨xe,g5.seq h4⟩,?_⟩
 let Iv_4:Nat→L2.St→Hp→Prop:=(fun i σ H'=>(∃ x13 x14,σ=[some (.ref a),some (.int salt),some (.int n),some (.str s.signs),some (.int s.rooms),some (.ref pb),some (.ref ps),some (.ref pe),some (.str ld),some (.ref lt),x10,some (.ref ll),some (.int (0+(c:Int))),x13,x14,x15,x16,x17,x18,x19])∧Same H1 H'∧H' lt=some (.lst (T.map V.int))∧H' ll=some (.lst [.ref lb,.ref ls,.ref le])∧∃(B:List Mk) (S:List Stp) (E:List Mk) (zb zs ze:List V),H' lb=some (.lst zb)∧H' ls=some (.lst zs)∧H' le=some (.lst ze)∧Paired (MkV K H') B zb∧Paired (StV K H') S zs∧Paired (MkV K H') E ze∧MI s.rooms T s.begins (c+1) 0 B∧SI s.rooms T s.steps c 0 0 S∧MI s.rooms T s.ends c i E)
 refine ϖ5 (xs:=xe) Iv_4
  ⟨⟨_,_,rfl⟩,g5,elt,ell,B,S,E,zb,zs,ze,eb,es,ee,pB,pS,pE,iB,iS,iE⟩ (fun i σ H' _ z=>z.2.1.seq h4) (fun b_ r_ hb_ hr_=>?_) ?_
 ·clear g5 elt ell eb es ee pB pS pE iB iS iE B S E zb zs ze
  rintro i y σ H5 hy ⟨⟨x13',x14',rfl⟩,⟨g5,elt,ell,B,S,E,zb,zs,ze,eb,es,ee,pB,pS,pE,iB,iS,iE⟩⟩
  obtain⟨m,hm,bm,rfl,hbm⟩:=ϖw h7 hy
  have hmm:=List.mem_of_getElem? hm
  have hbm:=Same.seqT g5 hbm
  have b1:=okR.2.2 m hmm
  have lw:=(ok.me m hmm).2.2.1
  have hz:=pE.length
  have hli:=iE.ln
  have hi62:i < 20:=by have:=(List.getElem?_eq_some_iff.mp hm).1;have:=ok.le;omega
  refine⟨bm,_,rfl,hbm,rfl,_,_,rfl,_,_,rfl,rfl,?_⟩
  refine⟨_,rfl,_,rfl,_,_,rfl,rfl,_,rfl,_,_,rfl,rfl,.inl ⟨by omega,by omega⟩,_,_,rfl,rfl,_,rfl,_,_,rfl,rfl,_,_,rfl,fun z z0 z1=>⟨_,_,rfl,rfl,pz,_,_,rfl,rfl,_,rfl,ϕx (fun _=>?_) (fun _=>⟨⟨_,_,rfl⟩,g5,elt,ell,B,S,E,zb,zs,ze,eb,es,ee,pB,pS,pE,iB,iS,iE.skip⟩)⟩⟩
  have k:=cR (R:=s.rooms) (c:=c) (c':=c) b1.1 b1.2 b1.1 b1.2 hc hc
  have hat:atI (T.map V.int) (m.1+(0+(c:Int))*s.rooms)=some (.int (tn T (m.1+(c:Int)*s.rooms))):=by rw[Int.zero_add];exact ϟ7 ht k.1.1 k.1.2
  have w1:=sl_38 (z:=m.2)
  have w2:=ϛR (z:=ld) hld (c:=0+(c:Int)) (by omega)
  refine⟨_,rfl,ll,_,_,.ref le,rfl,rfl,SqL.of ell,rfl,.inl ⟨rfl,_,SqL.of ee⟩,_,rfl,_,rfl,_,rfl,_,rfl,_,_,rfl,rfl,.inl ⟨by omega,by omega⟩,_,_,rfl,rfl,lt,_,_,.int (tn T (m.1+(c:Int)*s.rooms)),rfl,rfl,SqL.of elt,hat,_,rfl,_,rfl,_,rfl,_,rfl,szl (by omega),_,_,rfl,rfl,szl (by omega),_,rfl,_,rfl,_,rfl,szl (by rw[ϑi];omega),(by show 2≤sizeLine;decide),fun tt htt=>?_⟩
  have hW:(Txt.slice (ld++Txt.slice m.2 none (some 38)) (some (0+(c:Int))) none).length≤40:=by have:=ϲj (z:=ld++Txt.slice m.2 none (some 38)) (i:=some (0+(c:Int))) (j:=none);rw[ϑi] at this;omega
  dsimp only at htt⊢
  generalize Txt.slice (ld++Txt.slice m.2 none (some 38)) (some (0+(c:Int))) none=W at hW htt⊢
  have k1:=ϖe htt (.tup [V.int (tn T (m.1+(c:Int)*s.rooms)),V.str W])
  have et:=ϖd (H:=H5) (a:=tt) (o:=.tup [V.int (tn T (m.1+(c:Int)*s.rooms)),V.str W])
  generalize upd H5 tt (.tup [V.int (tn T (m.1+(c:Int)*s.rooms)),V.str W])=H6 at k1 et⊢
  have ez6:=k1 _ _ ee
  have gt:=ϕj ez6 (.lst (ze++[.ref tt]))
  have gr:=Grow.trans (Same.grow k1) gt
  refine⟨le,ze,.ref tt,rfl,rfl,ez6,szl' (by omega),?_⟩
  exact⟨⟨_,_,rfl⟩,ϖv (g5.trans k1) hle0,(ϖq tle).trans (k1 _ _ elt),(ϖq lle).trans (k1 _ _ ell),B,S,E++[(tn T (m.1+(c:Int)*s.rooms),W)],zb,zs,ze++[.ref tt],(ϖq be).trans (k1 _ _ eb),(ϖq se).trans (k1 _ _ es),ϖd,ϖb (fun _ _=>MkV.mono gr) pB,ϖb (fun _ _=>StV.mono gr) pS,ϖt (ϖb (fun _ _=>MkV.mono gr) pE) (.cons ⟨tt,rfl,gt.seqT (SqT.of et)⟩ .nil),iB,iS,iE.add ht hc (fun m hm=>okR.2.2 m hm) nde hm hW⟩
 rintro σ H5 ⟨⟨x13,x14,rfl⟩,⟨g5,elt,ell,B,S,E,zb,zs,ze,eb,es,ee,pB,pS,pE,iB,iS,iE⟩⟩
 rw[← h7.length] at iE
 replace iE:=iE.next ok.le
 refine⟨_,rfl,ps,rfl,⟨xs,g5.seq h3⟩,?_⟩
 let Iv_5:Nat→L2.St→Hp→Prop:=(fun i σ H'=>(∃ x14 x15 x16 x17 x18 x19,σ=[some (.ref a),some (.int salt),some (.int n),some (.str s.signs),some (.int s.rooms),some (.ref pb),some (.ref ps),some (.ref pe),some (.str ld),some (.ref lt),x10,some (.ref ll),some (.int (0+(c:Int))),x13,x14,x15,x16,x17,x18,x19])∧Same H1 H'∧H' lt=some (.lst (T.map V.int))∧H' ll=some (.lst [.ref lb,.ref ls,.ref le])∧∃(B:List Mk) (S:List Stp) (E:List Mk) (zb zs ze:List V),H' lb=some (.lst zb)∧H' ls=some (.lst zs)∧H' le=some (.lst ze)∧Paired (MkV K H') B zb∧Paired (StV K H') S zs∧Paired (MkV K H') E ze∧MI s.rooms T s.begins (c+1) 0 B∧SI s.rooms T s.steps c i 0 S∧MI s.rooms T s.ends (c+1) 0 E)
 refine ϖ5 (xs:=xs) Iv_5
  ⟨⟨_,_,_,_,_,_,rfl⟩,g5,elt,ell,B,S,E,zb,zs,ze,eb,es,ee,pB,pS,pE,iB,iS,iE⟩ (fun i σ H' _ z=>z.2.1.seq h3) (fun b_ r_ hb_ hr_=>?_) ?_
 ·clear g5 elt ell eb es ee pB pS pE iB iS iE B S E zb zs ze
  rintro i y σ H5 hy ⟨⟨x14,x15,x16,x17,x18,x19,rfl⟩,⟨g5,elt,ell,B,S,E,zb,zs,ze,eb,es,ee,pB,pS,pE,iB,iS,iE⟩⟩
  obtain⟨t,htt,bt,rfl,hbt⟩:=ϖw h6 hy
  have htm:=List.mem_of_getElem? htt
  have hbt:=Same.seqT g5 hbt
  have b1:=okR.2.1 t htm
  have lw:=(ok.ms t htm).2.2.2.1.1
  have hi62:i < 20:=by have:=(List.getElem?_eq_some_iff.mp htt).1;have:=ok.ls;omega
  refine⟨bt,_,rfl,hbt,rfl,_,_,rfl,_,_,rfl,_,_,rfl,_,_,rfl,rfl,?_⟩
  refine⟨_,rfl,by decide,by decide,?_⟩
  let Iv_6:Nat→L2.St→Hp→Prop:=(fun d σ H'=>(∃ x18 x19,σ=[some (.ref a),some (.int salt),some (.int n),some (.str s.signs),some (.int s.rooms),some (.ref pb),some (.ref ps),some (.ref pe),some (.str ld),some (.ref lt),x10,some (.ref ll),some (.int (0+(c:Int))),x13,some (.str t.2.2.1),some (.int t.1),some (.str t.2.1),some (.int t.2.2.2),x18,x19])∧d≤2∧Same H1 H'∧H' lt=some (.lst (T.map V.int))∧H' ll=some (.lst [.ref lb,.ref ls,.ref le])∧∃(B:List Mk) (S:List Stp) (E:List Mk) (zb zs ze:List V),H' lb=some (.lst zb)∧H' ls=some (.lst zs)∧H' le=some (.lst ze)∧Paired (MkV K H') B zb∧Paired (StV K H') S zs∧Paired (MkV K H') E ze∧MI s.rooms T s.begins (c+1) 0 B∧SI s.rooms T s.steps c i d S∧MI s.rooms T s.ends (c+1) 0 E)
  refine ϕC Iv_6
   ⟨⟨_,_,rfl⟩,by decide,g5,elt,ell,B,S,E,zb,zs,ze,eb,es,ee,pB,pS,pE,iB,iS,iE⟩ (fun b_ r_ hb_ hr_=>?_) ?_
  rotate_left
  ·rintro σ H6 ⟨⟨x18',x19',rfl⟩,_,⟨g5,elt,ell,B,S,E,zb,zs,ze,eb,es,ee,pB,pS,pE,iB,iS,iE⟩⟩
   exact⟨⟨_,_,_,_,_,_,rfl⟩,g5,elt,ell,B,S,E,zb,zs,ze,eb,es,ee,pB,pS,pE,iB,iS.nexti,iE⟩
  clear g5 elt ell eb es ee pB pS pE iB iS iE B S E zb zs ze hbt
  rintro d σ H5 hd2 ⟨⟨x18',x19',rfl⟩,hdl,⟨g5,elt,ell,B,S,E,zb,zs,ze,eb,es,ee,pB,pS,pE,iB,iS,iE⟩⟩
  have hd:d < 2:=hd2
  have hz:=pS.length
  have hli:=iS.ln
  refine⟨_,rfl,_,rfl,_,_,rfl,rfl,_,rfl,_,_,rfl,rfl,.inl ⟨by omega,by omega⟩,_,_,rfl,rfl,_,rfl,_,_,rfl,rfl,.inl ⟨by omega,by omega⟩,_,_,rfl,rfl,_,rfl,_,_,rfl,rfl,_,rfl,_,_,rfl,rfl,.inl ⟨by omega,by omega⟩,_,_,rfl,rfl,_,_,rfl,fun z z0 z1=>⟨_,_,rfl,rfl,pz,_,_,rfl,rfl,_,rfl,ϕx (fun _=>?_) (fun _=>⟨⟨_,_,rfl⟩,hd,g5,elt,ell,B,S,E,zb,zs,ze,eb,es,ee,pB,pS,pE,iB,iS.skip,iE⟩)⟩⟩
  have k:=cR (R:=s.rooms) (c:=c) (c':=c) b1.1 b1.2.1 b1.1 b1.2.1 hc hc
  have k2:=cR (R:=s.rooms) (c:=d) (c':=d) b1.2.2.1 b1.2.2.2 b1.1 b1.2.1 hd hd
  have hat:atI (T.map V.int) (t.1+(0+(c:Int))*s.rooms)=some (.int (tn T (t.1+(c:Int)*s.rooms))):=by rw[Int.zero_add];exact ϟ7 ht k.1.1 k.1.2
  have hat2:atI (T.map V.int) (t.2.2.2+(0+(d:Int))*s.rooms)=some (.int (tn T (t.2.2.2+(d:Int)*s.rooms))):=by rw[Int.zero_add];exact ϟ7 ht k2.1.1 k2.1.2
  have w1:=sl_38 (z:=t.2.2.1)
  have w2:=ϛR (z:=ld) hld (c:=0+(d:Int)) (by omega)
  have w3:=ϲj (z:=ld++Txt.slice t.2.2.1 none (some 38)) (i:=some (0+(c:Int))) (j:=none)
  rw[ϑi] at w3
  refine⟨_,rfl,_,rfl,_,rfl,_,rfl,szl (by omega),_,_,rfl,rfl,szl (by omega),_,rfl,_,rfl,_,rfl,szl (by rw[ϑi];omega),_,rfl,_,rfl,_,_,rfl,rfl,by omega,by omega,by omega,_,_,rfl,rfl,szl (by omega),?_⟩
  have hW:(Txt.slice (ld++Txt.slice t.2.2.1 none (some 38)) (some (0+(c:Int))) none++Txt.mul ld (0+(d:Int))).length≤40:=by rw[ϑi];omega
  show ϱp 19 (V.str (Txt.slice (ld++Txt.slice t.2.2.1 none (some 38)) (some (0+(c:Int))) none++Txt.mul ld (0+(d:Int)))) _ _ _
  generalize Txt.slice (ld++Txt.slice t.2.2.1 none (some 38)) (some (0+(c:Int))) none++Txt.mul ld (0+(d:Int))=W at hW⊢
  refine⟨_,rfl,ll,_,_,.ref ls,rfl,rfl,SqL.of ell,rfl,.inl ⟨rfl,_,SqL.of es⟩,_,rfl,_,rfl,_,rfl,_,rfl,_,_,rfl,rfl,.inl ⟨by omega,by omega⟩,_,_,rfl,rfl,lt,_,_,.int (tn T (t.1+(c:Int)*s.rooms)),rfl,rfl,SqL.of elt,hat,_,rfl,_,rfl,_,rfl,_,rfl,_,rfl,_,rfl,_,_,rfl,rfl,.inl ⟨by omega,by omega⟩,_,_,rfl,rfl,lt,_,_,.int (tn T (t.2.2.2+(d:Int)*s.rooms)),rfl,rfl,SqL.of elt,hat2,(by show 4≤sizeLine;decide),fun tt htt'=>?_⟩
  have k1:=ϖe htt' (.tup [V.int (tn T (t.1+(c:Int)*s.rooms)),V.str t.2.1,V.str W,V.int (tn T (t.2.2.2+(d:Int)*s.rooms))])
  have et:=ϖd (H:=H5) (a:=tt) (o:=.tup [V.int (tn T (t.1+(c:Int)*s.rooms)),V.str t.2.1,V.str W,V.int (tn T (t.2.2.2+(d:Int)*s.rooms))])
  dsimp only at htt'⊢
  generalize upd H5 tt (.tup [V.int (tn T (t.1+(c:Int)*s.rooms)),V.str t.2.1,V.str W,V.int (tn T (t.2.2.2+(d:Int)*s.rooms))])=H6 at k1 et⊢
  have ez6:=k1 _ _ es
  have gt:=ϕj ez6 (.lst (zs++[.ref tt]))
  have gr:=Grow.trans (Same.grow k1) gt
  refine⟨ls,zs,.ref tt,rfl,rfl,ez6,szl' (by omega),?_⟩
  exact⟨⟨_,_,rfl⟩,hd,ϖv (g5.trans k1) hls0,(ϖq tls).trans (k1 _ _ elt),(ϖq lls).trans (k1 _ _ ell),B,S++[(tn T (t.1+(c:Int)*s.rooms),t.2.1,W,tn T (t.2.2.2+(d:Int)*s.rooms))],E,zb,zs++[.ref tt],ze,(ϖq bs).trans (k1 _ _ eb),ϖd,(ϖq se.symm).trans (k1 _ _ ee),ϖb (fun _ _=>MkV.mono gr) pB,ϖt (ϖb (fun _ _=>StV.mono gr) pS) (.cons ⟨tt,rfl,gt.seqT (SqT.of et)⟩ .nil),ϖb (fun _ _=>MkV.mono gr) pE,iB,iS.add ht hc hd okR.2.1 nds htt hW,iE⟩
 rintro σ H6 ⟨⟨x14,x15,x16,x17,x18,x19,rfl⟩,⟨g5,elt,ell,B,S,E,zb,zs,ze,eb,es,ee,pB,pS,pE,iB,iS,iE⟩⟩
 rw[← h6.length] at iS
 exact⟨⟨_,_,_,_,_,_,_,_,rfl⟩,hc,g5,elt,ell,B,S,E,zb,zs,ze,eb,es,ee,pB,pS,pE,iB,(iS.next ok.ls),iE⟩
theorem sc_law_spoilt:FnScope ["_law_script","_law_scribe","_law_salt","_law_number","_law_lists","_law_way","_law_at","_law_told","_law_word_here"] ["_law_script","_law_scribe","_law_salt"] (ϖj ϑY):=⟨rfl,rfl,rfl,by decide +kernel,rfl,by decide +kernel,by decide +kernel⟩
theorem ϵM (B:Bi mg) {ϖc ϖg:Addr} (XB:Xb K mg ϖc ϖg) (ϖH:Cal P w K mg base "_law_mixed" ["_law_cell","_law_k"] 1 (ϱg)) (ϖL:Cal P w K mg base "_law_cell_at" ["_law_script","_law_k"] 1 (ϵk K)) {f:Addr}{fd:FuncData} (F:Fun K "_law_spoilt" "_law_spoilt" ϑY f fd):FnOk P w K mg base CX0 2 f fd ["_law_script","_law_scribe","_law_salt"] (ϵs K):=by
 refine F.ok sc_law_spoilt (fun vs H Q E h=>?_) (fun cdv A outer s H vs Q E hr h=>?_)
 ·obtain⟨a,ns,v,s,pb,ps,pe,salt,rfl,_⟩:=h;rfl
 obtain⟨a,ns,v,s,pb,ps,pe,salt,rfl,hS,hV,dr,q⟩:=h
 refine⟨_,(ϖf (ϖp (i:=3) sc_law_spoilt.nd rfl (Or.inl rfl) (ϖE ϖH hr (by decide:1≤1) (by rfl) (ϖa (hs:=ϑ7) (ϖE ϖL hr (by decide:1≤1) (by rfl) (ϖa (pv 0) (ϖa ϖi ϖh))) (ϖa (pv 2) ϖh))))
   (ϖf (ϖp (i:=4) sc_law_spoilt.nd rfl (Or.inl rfl) (ϑa (ϖa (hs:=ϑ7) (ϰr (ϝz (K:=K) rLo ϰq) (by rfl) B.list ϱU (ϖa (hs:=ϖA) (ϖo (kIx (K:=K) rIxT ϖl) (pv 1) ϖi (by intro _ _;rfl)) ϖh)) (ϖa (hs:=ϑ7) (ϰr (ϝz (K:=K) rLo ϰq) (by rfl) B.list ϱU (ϖa (hs:=ϖA) (ϖo (kIx (K:=K) rIxT ϖl) (pv 1) ϖi (by intro _ _;rfl)) ϖh)) (ϖa (hs:=ϑ7) (ϰr (ϝz (K:=K) rLo ϰq) (by rfl) B.list ϱU (ϖa (hs:=ϖA) (ϖo (kIx (K:=K) rIxT ϖl) (pv 1) ϖi (by intro _ _;rfl)) ϖh)) ϖh)))))
   (ϖf (ϖp (i:=5) sc_law_spoilt.nd rfl (Or.inl rfl) (ϖu ϖ4 (pv 3) ϖi))
   (ϕ5 (ϑx (ϖI (kOp (K:=K) rNeD (ϛf hr.units)) (ϖo (kIx (K:=K) rIxL ϖD) (pv 4) (pv 5) (by intro _ _;rfl)) (ϑa ϖh) (ϖY _)) (ϖf (ϖp (i:=6) sc_law_spoilt.nd rfl (Or.inl rfl) (ϖu ϖ4 (ϖu ϖJ (pv 3) ϖi) (ϖ8 (kLen (K:=K)) (by rfl) B.len ϕZ (ϖa (hs:=ϖA) (ϖo (kIx (K:=K) rIxL ϖD) (pv 4) (pv 5) (by intro _ _;rfl)) ϖh))))
   (ϖf (ϖp (i:=7) sc_law_spoilt.nd rfl (Or.inl rfl) (ϖo (kIx (K:=K) rIxL ϖD) (ϖo (kIx (K:=K) rIxL ϖD) (pv 4) (pv 5) (by intro _ _;rfl)) (pv 6) (by intro _ _;rfl)))
   (ϖf (ϖp (i:=8) sc_law_spoilt.nd rfl (Or.inl rfl) (ϖo (kIx (K:=K) rIxT ϖl) (pv 7) ϖi (by intro _ _;rfl)))
   (ϕ5 (ϑx (ϖI ϵS (pv 5) ϖi (ϖY _)) (ϖk (ϖp (i:=8) sc_law_spoilt.nd rfl (Or.inl rfl) (ϖo (kIx (K:=K) rIxT ϖl) (pv 7) ϖi (by intro _ _;rfl)))) ϖN)
   (ϖf (ϖp (i:=8) sc_law_spoilt.nd rfl (Or.inl rfl) (ϕk ϱm (ϖo (kIx (K:=K) ϡx ϱP) (ϑa (ϖa (hs:=ϑK) (ϖu ϑk (pv 8) ϕY) (ϖa (hs:=ϖA) (ϕk ϱm (pv 8) (ϕo ϖi) ϕS) (ϖa (hs:=ϑK) (ϖu ϑk ϕY (ϕk ϱm (pv 8) ϕS (ϕo ϖi))) (ϖa (hs:=ϖA) (ϟI (pv 8) (pe_un ϝ6 ϖi)) ϖh))))) (ϖu ϖ4 (ϖu ϖJ (pv 3) ϖi) ϖi) (by intro _ _;rfl)) ϕS (ϕo ϖi)))
   (ϕ5 (ϑx (ϖI ϵS (pv 5) ϖi (ϖY _)) (ϖk (ϖp (i:=7) sc_law_spoilt.nd rfl (Or.inl rfl) (ϖG (ϖa (hs:=ϖA) (ϖo (kIx (K:=K) rIxT ϖl) (pv 7) ϖi (by intro _ _;rfl)) (ϖa (hs:=ϖA) (ϖo (kIx (K:=K) rIxT ϖl) (pv 7) ϖi (by intro _ _;rfl)) (ϖa (pv 8) (ϖa (hs:=ϖA) (ϖo (kIx (K:=K) rIxT ϖl) (pv 7) ϖi (by intro _ _;rfl)) ϖh))))))) (ϖk (ϖp (i:=7) sc_law_spoilt.nd rfl (Or.inl rfl) (ϖG (ϖa (hs:=ϖA) (ϖo (kIx (K:=K) rIxT ϖl) (pv 7) ϖi (by intro _ _;rfl)) (ϖa (pv 8) ϖh))))))
   (ϖk (ϑx (ϖI (kOp (K:=K) (rInD · true) (ϱT hr.units)) (pv 7) (ϖo (kIx (K:=K) rIxL ϖD) (pv 4) (pv 5) (by intro _ _;rfl)) rfl) (ϖk (ϝU (pv 7) (pg_sub (ϖo (kIx (K:=K) rIxL ϖD) (pv 4) (pv 5) (by intro _ _;rfl)) (pv 6) ϝt))) ϖN)))))))) ϖN)
   (ϖk (ϖF (ϖG (ϖa (hs:=ϖA) (ϖo (kIx (K:=K) rIxT ϖl) (pv 1) ϖi (by intro _ _;rfl)) (ϖa (hs:=ϖA) (ϖo (kIx (K:=K) rIxT ϖl) (pv 1) ϖi (by intro _ _;rfl)) (ϖa (hs:=ϖA) (ϖo (kIx (K:=K) rIxL ϖD) (pv 4) ϖi (by intro _ _;rfl)) (ϖa (hs:=ϖA) (ϖo (kIx (K:=K) rIxL ϖD) (pv 4) ϖi (by intro _ _;rfl)) (ϖa (hs:=ϖA) (ϖo (kIx (K:=K) rIxL ϖD) (pv 4) ϖi (by intro _ _;rfl)) ϖh)))))))))))),?_⟩
 obtain⟨av,xb,xs,xe,rfl,h1,h2,h3,h4,h5,h6,h7⟩:=hV
 refine⟨_,rfl,a,ns,1,rfl,hS,by decide,_,rfl,_,_,rfl,fun n n0 n1=>?_⟩
 refine⟨_,rfl,av,_,_,_,rfl,rfl,h1,rfl,pb,_,rfl,.inl h2,fun lb hlb=>?_⟩
 have kb:=ϖe hlb (.lst xb)
 refine⟨_,rfl,av,_,_,_,rfl,rfl,Same.seqT kb h1,rfl,ps,_,rfl,.inl (kb.seq h3),fun ls hls=>?_⟩
 have ks:=ϖe hls (.lst xs)
 have kbs:=kb.trans ks
 refine⟨_,rfl,av,_,_,_,rfl,rfl,Same.seqT kbs h1,rfl,pe,_,rfl,.inl (kbs.seq h4),fun le hle=>?_⟩
 have ke:=ϖe hle (.lst xe)
 have kbse:=kbs.trans ke
 refine⟨szl (by simp),fun ll hll=>?_⟩
 have kl:=ϖe hll (.lst [V.ref lb,V.ref ls,V.ref le])
 have g0:=kbse.trans kl
 have eb0:=ϖd (H:=H) (a:=lb) (o:=.lst xb)
 have es0:=ϖd (H:=upd H lb (.lst xb)) (a:=ls) (o:=.lst xs)
 have ee0:=ϖd (H:=upd (upd H lb (.lst xb)) ls (.lst xs)) (a:=le) (o:=.lst xe)
 have bs:lb≠ls:=ϖn eb0 hls
 have be:lb≠le:=ϖn (ks _ _ eb0) hle
 have se:ls≠le:=ϖn es0 hle
 have lnb:lb≠ll:=ϖn (ke _ _ (ks _ _ eb0)) hll
 have lns:ls≠ll:=ϖn (ke _ _ es0) hll
 have lne:le≠ll:=ϖn ee0 hll
 have hb0:H lb=none:=hlb
 have hs0:H ls=none:=kb.free hls
 have he0:H le=none:=kbs.free hle
 have eb:=kl _ _ (ke _ _ (ks _ _ eb0))
 have es:=kl _ _ (ke _ _ es0)
 have ee:=kl _ _ ee0
 have ell:=ϖd (H:=upd (upd (upd H lb (.lst xb)) ls (.lst xs)) le (.lst xe)) (a:=ll) (o:=.lst [V.ref lb,V.ref ls,V.ref le])
 generalize upd (upd (upd (upd H lb (.lst xb)) ls (.lst xs)) le (.lst xe)) ll (.lst [V.ref lb,V.ref ls,V.ref le])=H1 at g0 eb es ee ell⊢
 have h1':=Same.seqT g0 h1
 have h5:=ϖb (fun _ _=>MkV.mono (Same.grow g0)) h5
 have h6:=ϖb (fun _ _=>StV.mono (Same.grow g0)) h6
 have h7:=ϖb (fun _ _=>MkV.mono (Same.grow g0)) h7
 clear kb ks ke kl kbs kbse hlb hls hle hll eb0 es0 ee0
 refine⟨_,rfl,_,_,rfl,rfl,pz,?_⟩
 have w0:=Int.emod_nonneg n (show(3:Int)≠0 by decide)
 have w1:=Int.emod_lt_of_pos n (show(0:Int) < 3 by decide)
 show ϱp 5 (V.int (n % 3)) _ _ _
 generalize n % 3=way at w0 w1⊢
 let Jv_1:L2.St→Hp→Prop:=fun σ' H'=>∃x6 x7 x8,σ'=[some (.ref a),some (.ref av),some (.int salt),some (.int n),some (.ref ll),some (.int way),x6,x7,x8]∧Same H H'∧H' ll=some (.lst [.ref lb,.ref ls,.ref le])∧∃(B:List Mk) (S:List Stp) (E:List Mk) (zb zs ze:List V),H' lb=some (.lst zb)∧H' ls=some (.lst zs)∧H' le=some (.lst ze)∧Paired (MkV K H') B zb∧Paired (StV K H') S zs∧Paired (MkV K H') E ze∧Dr ⟨s.signs,s.rooms,B,S,E⟩
 refine⟨Jv_1,?_,?_⟩
 rotate_left
 ·rintro _ H2 ⟨x6,x7,x8,rfl,g2,ell2,B,S,E,zb,zs,ze,eb2,es2,ee2,pB,pS,pE,dr2⟩
  have h12:=Same.seqT g2 h1
  refine⟨_,rfl,av,_,_,_,rfl,rfl,h12,rfl,_,rfl,av,_,_,_,rfl,rfl,h12,rfl,_,rfl,ll,_,_,.ref lb,rfl,rfl,SqL.of ell2,rfl,_,rfl,ll,_,_,.ref ls,rfl,rfl,SqL.of ell2,rfl,_,rfl,ll,_,_,.ref le,rfl,rfl,SqL.of ell2,rfl,(by show 5≤sizeLine;decide),fun v hv=>?_⟩
  have gv:=ϖe hv (.tup [V.str s.signs,V.int s.rooms,V.ref lb,V.ref ls,V.ref le])
  exact q _ _ ⟨s.signs,s.rooms,B,S,E⟩ lb ls le (g2.trans gv) ⟨v,zb,zs,ze,rfl,SqT.of ϖd,SqL.of (gv _ _ eb2),SqL.of (gv _ _ es2),SqL.of (gv _ _ ee2),ϖb (fun _ _=>MkV.mono (Same.grow gv)) pB,ϖb (fun _ _=>StV.mono (Same.grow gv)) pS,ϖb (fun _ _=>MkV.mono (Same.grow gv)) pE⟩ dr2
 have hw:way=0∨way=1∨way=2:=by omega
 rcases hw with rfl|rfl|rfl
 ·have hat:atI [V.ref lb,V.ref ls,V.ref le] 0=some (.ref lb):=rfl
  refine⟨_,rfl,_,rfl,ll,_,_,.ref lb,rfl,rfl,SqL.of ell,hat,szl (by simp),fun l0 hl0=>?_⟩
  have k0:=ϖe hl0 (.lst [])
  refine⟨.lst (s.begins.map dMk),.lst [],ϕ_ (SqL.of (k0 _ _ eb)) (ϰy (m:=(0,"")) (ϖb (fun _ _=>MkV.mono (Same.grow k0)) h5)),ϕ_ (SqL.of ϖd) .nil,?_,_,rfl,?_⟩
  ·have:=ϑy dMk 1 ϰw s.begins
   simp only[deep]
   omega
  rw[ϟD]
  have g1:=g0.trans k0
  have ell:=k0 _ _ ell
  have eb:=k0 _ _ eb
  have es:=k0 _ _ es
  have ee:=k0 _ _ ee
  have h5:=ϖb (fun _ _=>MkV.mono (Same.grow k0)) h5
  have h6:=ϖb (fun _ _=>StV.mono (Same.grow k0)) h6
  have h7:=ϖb (fun _ _=>MkV.mono (Same.grow k0)) h7
  generalize upd H1 l0 (.lst [])=H2 at g1 ell eb es ee h5 h6 h7⊢
  by_cases cn:s.begins=[]
  ·rw[decide_eq_true cn]
   exact iteF ⟨_,_,_,rfl,g1,ell,s.begins,s.steps,s.ends,xb,xs,xe,eb,es,ee,h5,h6,h7,dr⟩
  rw[decide_eq_false cn]
  refine iteT ?_
  have hXl:0 < s.begins.length:=List.length_pos_iff.mpr cn
  have hzl:s.begins.length=xb.length:=h5.length
  have hpos:(0:Int) < (xb.length:Int):=by omega
  refine⟨_,rfl,_,_,rfl,rfl,⟨by decide,by decide⟩,_,rfl,_,rfl,ll,_,_,.ref lb,rfl,rfl,SqL.of ell,hat,lb,_,rfl,.inl (SqL.of eb),_,_,rfl,rfl,hpos,?_⟩
  have a0:=Int.emod_nonneg (n / 3) (show(xb.length:Int)≠0 by omega)
  have a1:=Int.emod_lt_of_pos (n / 3) hpos
  show ϱp 6 (V.int (n / 3 % (xb.length:Int))) _ _ _
  generalize n / 3 % (xb.length:Int)=ai at a0 a1⊢
  obtain⟨k,rfl⟩:=Int.eq_ofNat_of_zero_le a0
  have hk:k < xb.length:=by omega
  obtain⟨m,hm⟩:∃m,s.begins[k]?=some m:=⟨_,List.getElem?_eq_getElem (by omega)⟩
  have hmem:=List.mem_of_getElem? hm
  obtain⟨vm,hvm,bm,rfl,hbm⟩:=ϖM h5 hm
  refine⟨_,rfl,_,rfl,ll,_,_,.ref lb,rfl,rfl,SqL.of ell,hat,_,rfl,lb,_,_,_,rfl,rfl,SqL.of eb,ϖQ hvm,?_⟩
  refine⟨_,rfl,bm,_,_,_,rfl,rfl,hbm,rfl,?_⟩
  let Jv_2:L2.St→Hp→Prop:=fun σ' H'=>H2=H'∧∃u:Str,u.length≤100∧σ'=[some (.ref a),some (.ref av),some (.int salt),some (.int n),some (.ref ll),some (.int 0),some (.int (k:Int)),some (.ref bm),some (.str u)]
  refine⟨Jv_2,?_,?_⟩
  ·exact⟨_,rfl,rfl,_,rfl,iteF ⟨rfl,m.2,by have:=dr.wb m hmem;omega,rfl⟩⟩
  rintro _ _ ⟨rfl,u,lu,rfl⟩
  have q1:=ϲj (z:=u) (i:=some 1) (j:=none)
  have q2:=ϲj (z:=u) (i:=none) (j:=some 30)
  have ea:(Str.ofString "a").length=1:=by decide +kernel
  have ebb:(Str.ofString "b").length=1:=by decide +kernel
  refine⟨_,rfl,_,_,rfl,rfl,szl (by omega),_,rfl,_,rfl,_,rfl,szl (by omega),_,rfl,_,rfl,_,rfl,szl (by omega),_,_,rfl,rfl,szl (by omega),_,rfl,_,rfl,rfl,_,rfl,szl (by omega),szl (by simp),fun lq hlq=>?_⟩
  have kq:Same H2 (upd H2 lq (.lst [V.str (u++Str.ofString "a"),V.str (Txt.slice u (some 1) none),V.str (Str.ofString "b"++Txt.slice u none (some 30)),V.str (rvS u)])):=ϖe hlq _
  refine⟨_,rfl,_,_,rfl,rfl,⟨by decide,by decide⟩,_,_,rfl,rfl,pz,lq,_,_,rfl,rfl,SqL.of ϖd,by omega,(by show n / 1000 % 4 < 4;omega),(fun v=>∃o:Str,v=.str o∧o.length≤200),?_,?_⟩
  ·intro v hv
   simp only[List.mem_cons,List.not_mem_nil,or_false] at hv
   rcases hv with rfl|rfl|rfl|rfl
   ·exact⟨_,rfl,by rw[ϑi];omega⟩
   ·exact⟨_,rfl,by omega⟩
   ·exact⟨_,rfl,by rw[ϑi];omega⟩
   ·exact⟨_,rfl,by rw[ϰ8];omega⟩
  rintro _⟨o,rfl,ho⟩
  refine⟨_,rfl,_,rfl,szl (by omega),?_⟩
  have hwd:=ϛT (z:=o)
  show ϱp 8 (V.str (Txt.slice o none (some 40))) _ _ _
  generalize Txt.slice o none (some 40)=wd at hwd⊢
  generalize upd H2 lq (.lst [V.str (u++Str.ofString "a"),V.str (Txt.slice u (some 1) none),V.str (Str.ofString "b"++Txt.slice u none (some 30)),V.str (rvS u)])=H3 at kq⊢
  have hbm3:=Same.seqT kq hbm
  let Jv_3:L2.St→Hp→Prop:=fun σ' H'=>∃tt,σ'=[some (.ref a),some (.ref av),some (.int salt),some (.int n),some (.ref ll),some (.int 0),some (.int (k:Int)),some (.ref tt),some (.str wd)]∧Same H2 H'∧H' tt=some (.tup [V.int m.1,V.str wd])
  refine⟨Jv_3,?_,?_⟩
  ·exact⟨_,rfl,rfl,_,rfl,iteF ⟨_,rfl,bm,_,_,_,rfl,rfl,hbm3,rfl,_,rfl,(by show 2≤sizeLine;decide),fun tt htt=>⟨tt,rfl,kq.trans (ϖe htt _),ϖd⟩⟩⟩
  rintro _ H4 ⟨tt,rfl,gq,et⟩
  have ell4:=gq _ _ ell
  have eL4:=gq _ _ eb
  refine⟨_,rfl,_,rfl,_,rfl,ll,_,_,.ref lb,rfl,rfl,SqL.of ell4,hat,dMk (m.1,wd),lb,xb,s.begins.map dMk,MkV.rep ⟨tt,rfl,SqT.of et⟩,rfl,SqL.of eL4,ϰy (m:=(0,"")) (ϖb (fun _ _=>MkV.mono (Same.grow gq)) h5),Nat.le_trans (ϑy dMk 1 ϰw _) (by decide),_,rfl,iteB (fun z=>?_) (fun _=>⟨_,_,_,rfl,g1.trans gq,ell4,s.begins,s.steps,s.ends,xb,xs,xe,gq _ _ eb,gq _ _ es,gq _ _ ee,ϖb (fun _ _=>MkV.mono (Same.grow gq)) h5,ϖb (fun _ _=>StV.mono (Same.grow gq)) h6,ϖb (fun _ _=>MkV.mono (Same.grow gq)) h7,dr⟩)⟩
  have z':(!((s.begins.map dMk).any fun e=>eqD e (dMk (m.1,wd))))=true:=z
  rw[ϰI dMk ϵE] at z'
  have hnin:(m.1,wd)∉s.begins:=by simpa using z'
  refine⟨_,rfl,_,rfl,_,rfl,ll,_,_,.ref lb,rfl,rfl,SqL.of ell4,hat,_,rfl,lb,_,_,k,rfl,rfl,eL4,ϟE hk,?_⟩
  have gt:=ϕj eL4 (.lst (xb.set k (.ref tt)))
  have gr:=Grow.trans (Same.grow gq) gt
  exact⟨_,_,_,rfl,ϖv (g1.trans gq) hb0,(ϖq lnb.symm).trans ell4,s.begins.set k (m.1,wd),s.steps,s.ends,xb.set k (.ref tt),xs,xe,ϖd,(ϖq bs.symm).trans (gq _ _ es),(ϖq be.symm).trans (gq _ _ ee),ϰt ⟨tt,rfl,gt.seqT (SqT.of et)⟩ k (ϖb (fun _ _=>MkV.mono gr) h5),ϖb (fun _ _=>StV.mono gr) h6,ϖb (fun _ _=>MkV.mono gr) h7,dr.setB (dr.n.ok.mb m hmem) hwd hnin⟩
 ·have hat:atI [V.ref lb,V.ref ls,V.ref le] 1=some (.ref ls):=rfl
  refine⟨_,rfl,_,rfl,ll,_,_,.ref ls,rfl,rfl,SqL.of ell,hat,szl (by simp),fun l0 hl0=>?_⟩
  have k0:=ϖe hl0 (.lst [])
  refine⟨.lst (s.steps.map dSt),.lst [],ϕ_ (SqL.of (k0 _ _ es)) (ϵW (ϖb (fun _ _=>StV.mono (Same.grow k0)) h6)),ϕ_ (SqL.of ϖd) .nil,?_,_,rfl,?_⟩
  ·have:=ϑy dSt 1 ϱB s.steps
   simp only[deep]
   omega
  rw[ϛw]
  have g1:=g0.trans k0
  have ell:=k0 _ _ ell
  have eb:=k0 _ _ eb
  have es:=k0 _ _ es
  have ee:=k0 _ _ ee
  have h5:=ϖb (fun _ _=>MkV.mono (Same.grow k0)) h5
  have h6:=ϖb (fun _ _=>StV.mono (Same.grow k0)) h6
  have h7:=ϖb (fun _ _=>MkV.mono (Same.grow k0)) h7
  generalize upd H1 l0 (.lst [])=H2 at g1 ell eb es ee h5 h6 h7⊢
  by_cases cn:s.steps=[]
  ·rw[decide_eq_true cn]
   exact iteF ⟨_,_,_,rfl,g1,ell,s.begins,s.steps,s.ends,xb,xs,xe,eb,es,ee,h5,h6,h7,dr⟩
  rw[decide_eq_false cn]
  refine iteT ?_
  have hXl:0 < s.steps.length:=List.length_pos_iff.mpr cn
  have hzl:s.steps.length=xs.length:=h6.length
  have hpos:(0:Int) < (xs.length:Int):=by omega
  refine⟨_,rfl,_,_,rfl,rfl,⟨by decide,by decide⟩,_,rfl,_,rfl,ll,_,_,.ref ls,rfl,rfl,SqL.of ell,hat,ls,_,rfl,.inl (SqL.of es),_,_,rfl,rfl,hpos,?_⟩
  have a0:=Int.emod_nonneg (n / 3) (show(xs.length:Int)≠0 by omega)
  have a1:=Int.emod_lt_of_pos (n / 3) hpos
  show ϱp 6 (V.int (n / 3 % (xs.length:Int))) _ _ _
  generalize n / 3 % (xs.length:Int)=ai at a0 a1⊢
  obtain⟨k,rfl⟩:=Int.eq_ofNat_of_zero_le a0
  have hk:k < xs.length:=by omega
  obtain⟨m,hm⟩:∃m,s.steps[k]?=some m:=⟨_,List.getElem?_eq_getElem (by omega)⟩
  have hmem:=List.mem_of_getElem? hm
  obtain⟨vm,hvm,bm,rfl,hbm⟩:=ϖM h6 hm
  refine⟨_,rfl,_,rfl,ll,_,_,.ref ls,rfl,rfl,SqL.of ell,hat,_,rfl,ls,_,_,_,rfl,rfl,SqL.of es,ϖQ hvm,?_⟩
  refine⟨_,rfl,bm,_,_,_,rfl,rfl,hbm,rfl,?_⟩
  let Jv_4:L2.St→Hp→Prop:=fun σ' H'=>H2=H'∧∃u:Str,u.length≤100∧σ'=[some (.ref a),some (.ref av),some (.int salt),some (.int n),some (.ref ll),some (.int 1),some (.int (k:Int)),some (.ref bm),some (.str u)]
  refine⟨Jv_4,?_,?_⟩
  ·exact⟨_,rfl,rfl,_,rfl,iteT ⟨_,rfl,bm,_,_,_,rfl,rfl,hbm,rfl,rfl,m.2.2.1,by have:=dr.ws m hmem;omega,rfl⟩⟩
  rintro _ _ ⟨rfl,u,lu,rfl⟩
  have q1:=ϲj (z:=u) (i:=some 1) (j:=none)
  have q2:=ϲj (z:=u) (i:=none) (j:=some 30)
  have ea:(Str.ofString "a").length=1:=by decide +kernel
  have ebb:(Str.ofString "b").length=1:=by decide +kernel
  refine⟨_,rfl,_,_,rfl,rfl,szl (by omega),_,rfl,_,rfl,_,rfl,szl (by omega),_,rfl,_,rfl,_,rfl,szl (by omega),_,_,rfl,rfl,szl (by omega),_,rfl,_,rfl,rfl,_,rfl,szl (by omega),szl (by simp),fun lq hlq=>?_⟩
  have kq:Same H2 (upd H2 lq (.lst [V.str (u++Str.ofString "a"),V.str (Txt.slice u (some 1) none),V.str (Str.ofString "b"++Txt.slice u none (some 30)),V.str (rvS u)])):=ϖe hlq _
  refine⟨_,rfl,_,_,rfl,rfl,⟨by decide,by decide⟩,_,_,rfl,rfl,pz,lq,_,_,rfl,rfl,SqL.of ϖd,by omega,(by show n / 1000 % 4 < 4;omega),(fun v=>∃o:Str,v=.str o∧o.length≤200),?_,?_⟩
  ·intro v hv
   simp only[List.mem_cons,List.not_mem_nil,or_false] at hv
   rcases hv with rfl|rfl|rfl|rfl
   ·exact⟨_,rfl,by rw[ϑi];omega⟩
   ·exact⟨_,rfl,by omega⟩
   ·exact⟨_,rfl,by rw[ϑi];omega⟩
   ·exact⟨_,rfl,by rw[ϰ8];omega⟩
  rintro _⟨o,rfl,ho⟩
  refine⟨_,rfl,_,rfl,szl (by omega),?_⟩
  have hwd:=ϛT (z:=o)
  show ϱp 8 (V.str (Txt.slice o none (some 40))) _ _ _
  generalize Txt.slice o none (some 40)=wd at hwd⊢
  generalize upd H2 lq (.lst [V.str (u++Str.ofString "a"),V.str (Txt.slice u (some 1) none),V.str (Str.ofString "b"++Txt.slice u none (some 30)),V.str (rvS u)])=H3 at kq⊢
  have hbm3:=Same.seqT kq hbm
  let Jv_5:L2.St→Hp→Prop:=fun σ' H'=>∃tt,σ'=[some (.ref a),some (.ref av),some (.int salt),some (.int n),some (.ref ll),some (.int 1),some (.int (k:Int)),some (.ref tt),some (.str wd)]∧Same H2 H'∧H' tt=some (.tup [V.int m.1,V.str m.2.1,V.str wd,V.int m.2.2.2])
  refine⟨Jv_5,?_,?_⟩
  ·exact⟨_,rfl,rfl,_,rfl,iteT ⟨_,rfl,bm,_,_,_,rfl,rfl,hbm3,rfl,_,rfl,bm,_,_,_,rfl,rfl,hbm3,rfl,_,rfl,_,rfl,bm,_,_,_,rfl,rfl,hbm3,rfl,(by show 4≤sizeLine;decide),fun tt htt=>⟨tt,rfl,kq.trans (ϖe htt _),ϖd⟩⟩⟩
  rintro _ H4 ⟨tt,rfl,gq,et⟩
  have ell4:=gq _ _ ell
  have eL4:=gq _ _ es
  refine⟨_,rfl,_,rfl,_,rfl,ll,_,_,.ref ls,rfl,rfl,SqL.of ell4,hat,dSt (m.1,m.2.1,wd,m.2.2.2),ls,xs,s.steps.map dSt,StV.rep ⟨tt,rfl,SqT.of et⟩,rfl,SqL.of eL4,ϵW (ϖb (fun _ _=>StV.mono (Same.grow gq)) h6),Nat.le_trans (ϑy dSt 1 ϱB _) (by decide),_,rfl,iteB (fun z=>?_) (fun _=>⟨_,_,_,rfl,g1.trans gq,ell4,s.begins,s.steps,s.ends,xb,xs,xe,gq _ _ eb,gq _ _ es,gq _ _ ee,ϖb (fun _ _=>MkV.mono (Same.grow gq)) h5,ϖb (fun _ _=>StV.mono (Same.grow gq)) h6,ϖb (fun _ _=>MkV.mono (Same.grow gq)) h7,dr⟩)⟩
  have z':(!((s.steps.map dSt).any fun e=>eqD e (dSt (m.1,m.2.1,wd,m.2.2.2))))=true:=z
  rw[ϰI dSt ϡ1] at z'
  have hnin:(m.1,m.2.1,wd,m.2.2.2)∉s.steps:=by simpa using z'
  refine⟨_,rfl,_,rfl,_,rfl,ll,_,_,.ref ls,rfl,rfl,SqL.of ell4,hat,_,rfl,ls,_,_,k,rfl,rfl,eL4,ϟE hk,?_⟩
  have gt:=ϕj eL4 (.lst (xs.set k (.ref tt)))
  have gr:=Grow.trans (Same.grow gq) gt
  exact⟨_,_,_,rfl,ϖv (g1.trans gq) hs0,(ϖq lns.symm).trans ell4,s.begins,s.steps.set k (m.1,m.2.1,wd,m.2.2.2),s.ends,xb,xs.set k (.ref tt),xe,(ϖq bs).trans (gq _ _ eb),ϖd,(ϖq se.symm).trans (gq _ _ ee),ϖb (fun _ _=>MkV.mono gr) h5,ϰt ⟨tt,rfl,gt.seqT (SqT.of et)⟩ k (ϖb (fun _ _=>StV.mono gr) h6),ϖb (fun _ _=>MkV.mono gr) h7,dr.setS (dr.n.ok.ms m hmem) (dr.gs m hmem) hwd hnin⟩
 ·have hat:atI [V.ref lb,V.ref ls,V.ref le] 2=some (.ref le):=rfl
  refine⟨_,rfl,_,rfl,ll,_,_,.ref le,rfl,rfl,SqL.of ell,hat,szl (by simp),fun l0 hl0=>?_⟩
  have k0:=ϖe hl0 (.lst [])
  refine⟨.lst (s.ends.map dMk),.lst [],ϕ_ (SqL.of (k0 _ _ ee)) (ϰy (m:=(0,"")) (ϖb (fun _ _=>MkV.mono (Same.grow k0)) h7)),ϕ_ (SqL.of ϖd) .nil,?_,_,rfl,?_⟩
  ·have:=ϑy dMk 1 ϰw s.ends
   simp only[deep]
   omega
  rw[ϟD]
  have g1:=g0.trans k0
  have ell:=k0 _ _ ell
  have eb:=k0 _ _ eb
  have es:=k0 _ _ es
  have ee:=k0 _ _ ee
  have h5:=ϖb (fun _ _=>MkV.mono (Same.grow k0)) h5
  have h6:=ϖb (fun _ _=>StV.mono (Same.grow k0)) h6
  have h7:=ϖb (fun _ _=>MkV.mono (Same.grow k0)) h7
  generalize upd H1 l0 (.lst [])=H2 at g1 ell eb es ee h5 h6 h7⊢
  by_cases cn:s.ends=[]
  ·rw[decide_eq_true cn]
   exact iteF ⟨_,_,_,rfl,g1,ell,s.begins,s.steps,s.ends,xb,xs,xe,eb,es,ee,h5,h6,h7,dr⟩
  rw[decide_eq_false cn]
  refine iteT ?_
  have hXl:0 < s.ends.length:=List.length_pos_iff.mpr cn
  have hzl:s.ends.length=xe.length:=h7.length
  have hpos:(0:Int) < (xe.length:Int):=by omega
  refine⟨_,rfl,_,_,rfl,rfl,⟨by decide,by decide⟩,_,rfl,_,rfl,ll,_,_,.ref le,rfl,rfl,SqL.of ell,hat,le,_,rfl,.inl (SqL.of ee),_,_,rfl,rfl,hpos,?_⟩
  have a0:=Int.emod_nonneg (n / 3) (show(xe.length:Int)≠0 by omega)
  have a1:=Int.emod_lt_of_pos (n / 3) hpos
  show ϱp 6 (V.int (n / 3 % (xe.length:Int))) _ _ _
  generalize n / 3 % (xe.length:Int)=ai at a0 a1⊢
  obtain⟨k,rfl⟩:=Int.eq_ofNat_of_zero_le a0
  have hk:k < xe.length:=by omega
  obtain⟨m,hm⟩:∃m,s.ends[k]?=some m:=⟨_,List.getElem?_eq_getElem (by omega)⟩
  have hmem:=List.mem_of_getElem? hm
  obtain⟨vm,hvm,bm,rfl,hbm⟩:=ϖM h7 hm
  refine⟨_,rfl,_,rfl,ll,_,_,.ref le,rfl,rfl,SqL.of ell,hat,_,rfl,le,_,_,_,rfl,rfl,SqL.of ee,ϖQ hvm,?_⟩
  refine⟨_,rfl,bm,_,_,_,rfl,rfl,hbm,rfl,?_⟩
  let Jv_6:L2.St→Hp→Prop:=fun σ' H'=>H2=H'∧∃u:Str,u.length≤100∧σ'=[some (.ref a),some (.ref av),some (.int salt),some (.int n),some (.ref ll),some (.int 2),some (.int (k:Int)),some (.ref bm),some (.str u)]
  refine⟨Jv_6,?_,?_⟩
  ·exact⟨_,rfl,rfl,_,rfl,iteF ⟨rfl,m.2,by have:=dr.we m hmem;omega,rfl⟩⟩
  rintro _ _ ⟨rfl,u,lu,rfl⟩
  have q1:=ϲj (z:=u) (i:=some 1) (j:=none)
  have q2:=ϲj (z:=u) (i:=none) (j:=some 30)
  have ea:(Str.ofString "a").length=1:=by decide +kernel
  have ebb:(Str.ofString "b").length=1:=by decide +kernel
  refine⟨_,rfl,_,_,rfl,rfl,szl (by omega),_,rfl,_,rfl,_,rfl,szl (by omega),_,rfl,_,rfl,_,rfl,szl (by omega),_,_,rfl,rfl,szl (by omega),_,rfl,_,rfl,rfl,_,rfl,szl (by omega),szl (by simp),fun lq hlq=>?_⟩
  have kq:Same H2 (upd H2 lq (.lst [V.str (u++Str.ofString "a"),V.str (Txt.slice u (some 1) none),V.str (Str.ofString "b"++Txt.slice u none (some 30)),V.str (rvS u)])):=ϖe hlq _
  refine⟨_,rfl,_,_,rfl,rfl,⟨by decide,by decide⟩,_,_,rfl,rfl,pz,lq,_,_,rfl,rfl,SqL.of ϖd,by omega,(by show n / 1000 % 4 < 4;omega),(fun v=>∃o:Str,v=.str o∧o.length≤200),?_,?_⟩
  ·intro v hv
   simp only[List.mem_cons,List.not_mem_nil,or_false] at hv
   rcases hv with rfl|rfl|rfl|rfl
   ·exact⟨_,rfl,by rw[ϑi];omega⟩
   ·exact⟨_,rfl,by omega⟩
   ·exact⟨_,rfl,by rw[ϑi];omega⟩
   ·exact⟨_,rfl,by rw[ϰ8];omega⟩
  rintro _⟨o,rfl,ho⟩
  refine⟨_,rfl,_,rfl,szl (by omega),?_⟩
  have hwd:=ϛT (z:=o)
  show ϱp 8 (V.str (Txt.slice o none (some 40))) _ _ _
  generalize Txt.slice o none (some 40)=wd at hwd⊢
  generalize upd H2 lq (.lst [V.str (u++Str.ofString "a"),V.str (Txt.slice u (some 1) none),V.str (Str.ofString "b"++Txt.slice u none (some 30)),V.str (rvS u)])=H3 at kq⊢
  have hbm3:=Same.seqT kq hbm
  let Jv_7:L2.St→Hp→Prop:=fun σ' H'=>∃tt,σ'=[some (.ref a),some (.ref av),some (.int salt),some (.int n),some (.ref ll),some (.int 2),some (.int (k:Int)),some (.ref tt),some (.str wd)]∧Same H2 H'∧H' tt=some (.tup [V.int m.1,V.str wd])
  refine⟨Jv_7,?_,?_⟩
  ·exact⟨_,rfl,rfl,_,rfl,iteF ⟨_,rfl,bm,_,_,_,rfl,rfl,hbm3,rfl,_,rfl,(by show 2≤sizeLine;decide),fun tt htt=>⟨tt,rfl,kq.trans (ϖe htt _),ϖd⟩⟩⟩
  rintro _ H4 ⟨tt,rfl,gq,et⟩
  have ell4:=gq _ _ ell
  have eL4:=gq _ _ ee
  refine⟨_,rfl,_,rfl,_,rfl,ll,_,_,.ref le,rfl,rfl,SqL.of ell4,hat,dMk (m.1,wd),le,xe,s.ends.map dMk,MkV.rep ⟨tt,rfl,SqT.of et⟩,rfl,SqL.of eL4,ϰy (m:=(0,"")) (ϖb (fun _ _=>MkV.mono (Same.grow gq)) h7),Nat.le_trans (ϑy dMk 1 ϰw _) (by decide),_,rfl,iteB (fun z=>?_) (fun _=>⟨_,_,_,rfl,g1.trans gq,ell4,s.begins,s.steps,s.ends,xb,xs,xe,gq _ _ eb,gq _ _ es,gq _ _ ee,ϖb (fun _ _=>MkV.mono (Same.grow gq)) h5,ϖb (fun _ _=>StV.mono (Same.grow gq)) h6,ϖb (fun _ _=>MkV.mono (Same.grow gq)) h7,dr⟩)⟩
  have z':(!((s.ends.map dMk).any fun e=>eqD e (dMk (m.1,wd))))=true:=z
  rw[ϰI dMk ϵE] at z'
  have hnin:(m.1,wd)∉s.ends:=by simpa using z'
  refine⟨_,rfl,_,rfl,_,rfl,ll,_,_,.ref le,rfl,rfl,SqL.of ell4,hat,_,rfl,le,_,_,k,rfl,rfl,eL4,ϟE hk,?_⟩
  have gt:=ϕj eL4 (.lst (xe.set k (.ref tt)))
  have gr:=Grow.trans (Same.grow gq) gt
  exact⟨_,_,_,rfl,ϖv (g1.trans gq) he0,(ϖq lne.symm).trans ell4,s.begins,s.steps,s.ends.set k (m.1,wd),xb,xs,xe.set k (.ref tt),(ϖq be).trans (gq _ _ eb),(ϖq se).trans (gq _ _ es),ϖd,ϖb (fun _ _=>MkV.mono gr) h5,ϖb (fun _ _=>StV.mono gr) h6,ϰt ⟨tt,rfl,gt.seqT (SqT.of et)⟩ k (ϖb (fun _ _=>MkV.mono gr) h7),dr.setE (dr.n.ok.me m hmem) hwd hnin⟩
theorem sc_law_drawn:FnScope ["_law_script","_law_number","_law_scribe"] ["_law_script"] (ϖj ϕh):=⟨rfl,rfl,rfl,by decide +kernel,rfl,by decide +kernel,by decide +kernel⟩
theorem ϵ1 (B:Bi mg) {ϖc ϖg:Addr} (XB:Xb K mg ϖc ϖg) (ϖH:Cal P w K mg base "_law_mixed" ["_law_cell","_law_k"] 1 (ϱg)) (ϕ1:Cal P w K mg base "_law_twofold" ["_law_script","_law_salt"] 4 (ϱQ K)) (ϖL:Cal P w K mg base "_law_cell_at" ["_law_script","_law_k"] 1 (ϵk K)) (ϕ4:Cal P w K mg base "_law_choices" ["_law_script","_law_salt","_law_most"] 3 (ϲ2 K)) (ϰb:Cal P w K mg base "_law_spoilt" ["_law_script","_law_scribe","_law_salt"] 2 (ϵs K)) {f:Addr}{fd:FuncData} (F:Fun K "_law_drawn" "_law_drawn" ϕh f fd):FnOk P w K mg base CX0 5 f fd ["_law_script"] (ϲ0 K):=by
 refine F.ok sc_law_drawn (fun vs H Q E h=>?_) (fun cdv A outer s H vs Q E hr h=>?_)
 ·obtain⟨a,ns,rfl,_⟩:=h;rfl
 obtain⟨a,ns,rfl,hS,h63,q⟩:=h
 refine⟨_,(ϖf (ϖp (i:=1) sc_law_drawn.nd rfl (Or.inl rfl) (ϖE ϖH hr (by decide:1≤4) (by rfl) (ϖa (hs:=ϑ7) (ϖE ϖL hr (by decide:1≤4) (by rfl) (ϖa (pv 0) (ϖa ϖi ϖh))) (ϖa ϖi ϖh))))
   (ϖf (ϑx (ϖI ϵS (ϖu ϖ4 (pv 1) ϖi) ϖi (ϖY _)) (ϖk (ϖF (ϖE ϕ4 hr (by decide:3≤4) (by rfl) (ϖa (pv 0) (ϖa ϖi (ϖa ϖi ϖh)))))) ϖN)
   (ϖf (ϖp (i:=2) sc_law_drawn.nd rfl (Or.inl rfl) (ϖE ϕ1 hr (by decide:4≤4) (by rfl) (ϖa (pv 0) (ϖa ϖi ϖh))))
   (ϕ5 (ϑx (ϖI ϵS (ϖu ϖ4 (ϖu ϖJ (pv 1) ϖi) ϖi) ϖi (ϖY _)) (ϖk (ϖp (i:=2) sc_law_drawn.nd rfl (Or.inl rfl) (ϖE ϰb hr (by decide:2≤4) (by rfl) (ϖa (pv 0) (ϖa (pv 2) (ϖa ϖi ϖh)))))) ϖN)
   (ϖk (ϖF (pv 2))))))),?_⟩
 refine⟨_,rfl,a,ns,0,rfl,hS,by decide,_,_,rfl,fun n n0 n1=>?_⟩
 refine⟨_,rfl,_,_,rfl,rfl,pz,rfl,_,rfl,ϕx (fun c=>?_) (fun c=>?_)⟩
 ·exact⟨_,rfl,a,ns,1000,8,rfl,hS,h63,by decide,by decide,by decide,by decide,fun v H1 s pb ps pe ⟨g1,hV,ok,r0,r1,s1,s2,s3,s4⟩ hm=>q v H1 s pb ps pe g1 hV (.of ok r0 hm s1 s2)⟩
 refine⟨_,rfl,a,ns,2000,rfl,hS,h63,by decide,by decide,fun v H1 s pb ps pe g1 hV dr=>?_⟩
 refine⟨fun σ' H'=>∃v s pb ps pe,σ'=[some (.ref a),some (.int n),some v]∧Same H H'∧ScV K H' s v pb ps pe∧Dr s,?_,?_⟩
 ·refine⟨_,rfl,_,_,rfl,rfl,⟨by decide,by decide⟩,_,_,rfl,rfl,pz,rfl,_,rfl,ϕx (fun _=>?_) (fun _=>⟨v,s,pb,ps,pe,rfl,g1,hV,dr⟩)⟩
  exact⟨_,rfl,_,rfl,a,ns,v,s,pb,ps,pe,951,rfl,g1.seq hS,hV,dr,fun v2 H2 s2 pb2 ps2 pe2 g2 hV2 dr2=>⟨v2,s2,pb2,ps2,pe2,rfl,g1.trans g2,hV2,dr2⟩⟩
 rintro _ H2 ⟨v2,s2,pb2,ps2,pe2,rfl,g2,hV2,dr2⟩
 exact⟨_,rfl,q v2 H2 s2 pb2 ps2 pe2 g2 hV2 dr2⟩
theorem sc_law_filter:FnScope ["_law_script","_law_scribe","_law_many","_law_found","_law_steps","_law_low","_law_sign","_law_word_here","_law_high","_law_told"] ["_law_script","_law_scribe"] (ϖj ϑZ):=⟨rfl,rfl,rfl,by decide +kernel,rfl,by decide +kernel,by decide +kernel⟩
theorem ϵt (B:Bi mg) {ϖc ϖg:Addr} (XB:Xb K mg ϖc ϖg) (ϕa:Cal P w K mg base "_law_plain" ["_law_script","_law_salt","_law_most"] 3 (ϱs K)) {f:Addr}{fd:FuncData} (F:Fun K "_law_filter" "_law_filter" ϑZ f fd):FnOk P w K mg base CX0 4 f fd ["_law_script","_law_scribe"] (ϵI K):=by
 refine F.ok sc_law_filter (fun vs H Q E h=>?_) (fun cdv A outer s H vs Q E hr h=>?_)
 ·obtain⟨a,ns,v,s,pb,ps,pe,rfl,_⟩:=h;rfl
 obtain⟨a,ns,v,s,pb,ps,pe,rfl,hS,hl,hV,dr,q⟩:=h
 refine⟨_,(ϖf (ϖp (i:=2) sc_law_filter.nd rfl (Or.inl rfl) (ϖu ϖJ ϖi (ϖ8 (ϱO (by rfl)) (by rfl) B.max ϟz (ϖa (hs:=ϖA) (ϖo (kIx (K:=K) rIxT ϖl) (pv 1) ϖi (by intro _ _;rfl)) (ϖa ϖi ϖh)))))
   (ϖf (ϖp (i:=3) sc_law_filter.nd rfl (Or.inl rfl) (ϖE ϕa hr (by decide:3≤3) (by rfl) (ϖa (pv 0) (ϖa ϖi (ϖa (hs:=ϑ7) (ϖ8 (ϱO (by rfl)) (by rfl) B.max ϟz (ϖa (hs:=ϑ7) (ϖ8 (ϱX (by rfl)) (by rfl) B.min ϡT (ϖa (pv 2) (ϖa ϖi ϖh))) (ϖa ϖi ϖh))) ϖh)))))
   (ϖf (ϖp (i:=4) sc_law_filter.nd rfl (Or.inl rfl) (ϑa ϖh))
   (ϖf (ϑd PassesOwn.never (by rfl) (kPI (K:=K) (fun k=>ϑ3 k _) (ϖZ (ϖo (kIx (K:=K) rIxT ϖl) (pv 3) ϖi (by intro _ _;rfl)))) (kPG (K:=K) (fun k=>gTup k 4 _) (ϑr (n:=4) (by rfl) (ϖs (ϖr (i:=5) sc_law_filter.nd rfl (Or.inl rfl)) (ϖs (ϖr (i:=6) sc_law_filter.nd rfl (Or.inl rfl)) (ϖs (ϖr (i:=7) sc_law_filter.nd rfl (Or.inl rfl)) (ϖs (ϖr (i:=8) sc_law_filter.nd rfl (Or.inl rfl)) ϖ6)))))) (ϖf (ϖp (i:=9) sc_law_filter.nd rfl (Or.inl rfl) (ϖG (ϖa (pv 5) (ϖa (hs:=ϖA) (ϖo ϵh (ϖo (kIx (K:=K) rIxT ϖl) (pv 1) ϖi (by intro _ _;rfl)) (ϖu ϖ4 (kPE (K:=K) (fun k=>tBM k _ _ _ _) (ϕv PySem.F.plainAttrs_str PySem.F.slot_str_index PySem.F.type_str_index ϛC (ϖo (kIx (K:=K) rIxT ϖl) (pv 3) ϖi (by intro _ _;rfl)) (ϖa (pv 6) ϖh))) (ϖ8 ϑp (by rfl) B.len ϕZ (ϖa (hs:=ϖA) (ϖo (kIx (K:=K) rIxT ϖl) (pv 1) ϖi (by intro _ _;rfl)) ϖh))) (by intro _ _;rfl)) (ϖa (pv 7) (ϖa (pv 8) ϖh))))))
   (ϖk (ϑx (ϖI (kOp (K:=K) (rInD · true) (ϱT hr.units)) (pv 9) (pv 4) rfl) (ϖk (ϑm (kPE (K:=K) (fun k=>tBM k _ _ _ _) (ϕv PySem.F.plainAttrs_list PySem.F.slot_list_append PySem.F.type_list_append ϑh (pv 4) (ϖa (pv 9) ϖh))))) ϖN))))
   (ϖk (ϖF (ϖG (ϖa (hs:=ϖA) (ϖo (kIx (K:=K) rIxT ϖl) (pv 1) ϖi (by intro _ _;rfl)) (ϖa (hs:=ϖA) (ϖo (kIx (K:=K) rIxT ϖl) (pv 3) ϖi (by intro _ _;rfl)) (ϖa (hs:=ϖA) (ϖo (kIx (K:=K) rIxT ϖl) (pv 3) ϖi (by intro _ _;rfl)) (ϖa (pv 4) (ϖa (hs:=ϖA) (ϖo (kIx (K:=K) rIxT ϖl) (pv 3) ϖi (by intro _ _;rfl)) ϖh)))))))))))),?_⟩
 obtain⟨av,xb,xs,xe,rfl,h1,h2,h3,h4,h5,h6,h7⟩:=id hV
 have r0:=dr.n.r0
 have r8:=dr.n.r8
 refine⟨_,rfl,av,_,_,_,rfl,rfl,h1,rfl,_,_,rfl,_,_,rfl,rfl,⟨by split<;>omega,by split<;>omega⟩,?_⟩
 have hm:=ϛn r0 r8
 show ϱp 2 (V.int (8 / (if (1:Int) > s.rooms then 1 else s.rooms))) _ _ _
 generalize 8 / (if (1:Int) > s.rooms then 1 else s.rooms)=mn at hm⊢
 refine⟨_,rfl,_,rfl,_,_,rfl,_,_,rfl,a,ns,4000,_,rfl,hS,hl,by decide,by decide,?_,?_,fun v H1 f fb fs fe hnew r4=>?_⟩
 ·split<;>omega
 ·split<;>split<;>omega
 have hfr:=hm f.rooms r4
 obtain⟨g1,hF,ok,f0,_,_,_,_,_⟩:=hnew
 obtain⟨fv,yb,ys,ye,rfl,k1,k2,k3,k4,k5,k6,k7⟩:=id hF
 have h1:=Same.seqT g1 h1
 refine⟨szl (by simp),fun p hp=>?_⟩
 have kp:=ϖe hp (.lst [])
 have ep0:=ϖd (H:=H1) (a:=p) (o:=.lst [])
 generalize upd H1 p (.lst [])=H2 at kp ep0⊢
 refine⟨_,rfl,fv,_,_,_,rfl,rfl,Same.seqT kp k1,rfl,fs,rfl,⟨ys,kp.seq k3⟩,?_⟩
 let Iv_1:Nat→L2.St→Hp→Prop:=(fun i σ H'=>Same H1 H'∧(∃ x5 x6 x7 x8 x9,σ=[some (.ref a),some (.ref av),some (.int mn),some (.ref fv),some (.ref p),x5,x6,x7,x8,x9])∧∃(S:List Stp) (zs:List V),H' p=some (.lst zs)∧Paired (StV K H') S zs∧S.length≤i∧∀t∈S,0≤t.1∧t.1 < f.rooms∧0≤t.2.2.2∧t.2.2.2 < f.rooms)
 refine ϖ5 (xs:=ys) Iv_1
  ⟨kp,⟨_,_,_,_,_,rfl⟩,[],[],ep0,.nil,Nat.le_refl _,(fun _ h=>nomatch h)⟩ (fun i σ H' _ z=>z.1.seq k3) (fun b_ r_ hb_ hr_=>?_) ?_
 ·clear kp ep0
  rintro i y σ H3 hy ⟨g3,⟨x5,x6,x7,x8,x9,rfl⟩,S,zs,ez,pS,lS,bS⟩
  obtain⟨t,ht,b,rfl,hb⟩:=ϖw k6 hy
  have htm:=List.mem_of_getElem? ht
  have hi:i < 20:=by have:=(List.getElem?_eq_some_iff.mp ht).1;have:=ok.ls;omega
  have hz:=pS.length
  obtain⟨o1,o2,⟨c,hc,hcs⟩,o3,o4,o5⟩:=ok.ms t htm
  have hb:=Same.seqT g3 hb
  have h1:=Same.seqT g3 h1
  have k1:=Same.seqT g3 k1
  refine⟨b,_,rfl,hb,rfl,_,_,rfl,_,_,rfl,_,_,rfl,_,_,rfl,rfl,?_⟩
  have sg1:=dr.g1
  have sg5:=dr.g5
  refine⟨_,rfl,_,rfl,av,_,_,_,rfl,rfl,h1,rfl,_,rfl,fv,_,_,_,rfl,rfl,k1,rfl,rfl,_,rfl,f.signs,c,rfl,(by rw[hcs]),hc,fun n=>?_⟩
  obtain⟨ch,hch,_⟩:=ϲy (xs:=cl s.signs) (i:=(n:Int) % (s.signs.length:Int)) (Int.emod_nonneg _ (by omega)) (by rw[ϖR];exact Int.emod_lt_of_pos _ (by omega))
  refine⟨_,rfl,av,_,_,_,rfl,rfl,h1,rfl,s.signs,rfl,szl (by omega),_,_,rfl,rfl,(by show(0:Int) < (s.signs.length:Int);omega),s.signs,_,ch,rfl,rfl,szl (by omega),hch,_,rfl,_,rfl,(by show 4≤sizeLine;decide),fun tt htt=>?_⟩
  have k2':=ϖe htt (.tup [V.int t.1,V.str ⟨#[ch]⟩,V.str t.2.2.1,V.int t.2.2.2])
  have et:=ϖd (H:=H3) (a:=tt) (o:=.tup [V.int t.1,V.str ⟨#[ch]⟩,V.str t.2.2.1,V.int t.2.2.2])
  dsimp only at htt⊢
  generalize upd H3 tt (.tup [V.int t.1,V.str ⟨#[ch]⟩,V.str t.2.2.1,V.int t.2.2.2])=H4 at k2' et⊢
  have g4:=g3.trans k2'
  have ez:=k2' _ _ ez
  have pS:=ϖb (fun _ _=>StV.mono (Same.grow k2')) pS
  refine⟨_,rfl,_,rfl,dSt (t.1,⟨#[ch]⟩,t.2.2.1,t.2.2.2),p,zs,S.map dSt,StV.rep ⟨tt,rfl,SqT.of et⟩,rfl,SqL.of ez,ϵW pS,Nat.le_trans (ϑy dSt 1 ϱB S) (by decide),_,rfl,iteB (fun _=>?_) (fun _=>⟨g4,⟨_,_,_,_,_,rfl⟩,S,zs,ez,pS,by omega,bS⟩)⟩
  have gt:=ϕj ez (.lst (zs++[.ref tt]))
  refine⟨_,rfl,.inl ⟨rfl,_,SqL.of ez⟩,_,rfl,p,zs,.ref tt,rfl,rfl,ez,szl' (by omega),ϖv g4 hp,⟨_,_,_,_,_,rfl⟩,S++[(t.1,⟨#[ch]⟩,t.2.2.1,t.2.2.2)],zs++[.ref tt],ϖd,ϖt (ϖb (fun _ _=>StV.mono gt) pS) (.cons ⟨tt,rfl,gt.seqT (SqT.of et)⟩ .nil),by rw[List.length_append,List.length_singleton];omega,fun u hu=>?_⟩
  rcases List.mem_append.mp hu with hu|hu
  ·exact bS u hu
  ·rw[List.mem_singleton.mp hu]
   exact⟨o1,o2,o4,o5⟩
 rintro σ H3 ⟨g3,⟨x5,x6,x7,x8,x9,rfl⟩,S,zs,ez,pS,lS,bS⟩
 have k1':=Same.seqT g3 k1
 have lS:S.length≤20:=by have:=k6.length;have:=ok.ls;omega
 refine⟨_,rfl,av,_,_,_,rfl,rfl,Same.seqT g3 h1,rfl,_,rfl,fv,_,_,_,rfl,rfl,k1',rfl,_,rfl,fv,_,_,_,rfl,rfl,k1',rfl,_,rfl,_,rfl,fv,_,_,_,rfl,rfl,k1',rfl,(by show 5≤sizeLine;decide),fun v hv=>?_⟩
 have gv:=ϖe hv (.tup [V.str s.signs,V.int f.rooms,V.ref fb,V.ref p,V.ref fe])
 have gg:=g3.trans gv
 exact q _ _ ⟨s.signs,f.rooms,f.begins,S,f.ends⟩ fb p fe (g1.trans gg) ⟨v,yb,zs,ye,rfl,SqT.of ϖd,gg.seq k2,SqL.of (gv _ _ ez),gg.seq k4,ϖb (fun _ _=>MkV.mono (Same.grow gg)) k5,ϖb (fun _ _=>StV.mono (Same.grow gv)) pS,ϖb (fun _ _=>MkV.mono (Same.grow gg)) k7⟩
  ⟨rfl,f0,hfr.1,hfr.2,ok.lb,lS,ok.le,fun m hm=>⟨(ok.mb m hm).1,(ok.mb m hm).2.1⟩,bS,fun m hm=>⟨(ok.me m hm).1,(ok.me m hm).2.1⟩⟩
theorem sc_law:FnScope ["_law_script","_law_cells","_law_scribe","_law_single"] ["_law_script"] (ϖj ϵO):=⟨rfl,rfl,rfl,by decide +kernel,rfl,by decide +kernel,by decide +kernel⟩
theorem ok_law (B:Bi mg) {ϖc ϖg:Addr} (XB:Xb K mg ϖc ϖg) (ϰM:Cal P w K mg base "_law_drawn" ["_law_script"] 5 (ϲ0 K)) (ϕz:Cal1 P w K mg base "two_ways" ["scribe"] 5 (spTW K ϖg)) (ϰ6:Cal P w K mg base "mirrored" ["scribe"] 2 (ϛW K)) (ϱC:Cal1 P w K mg base "kept_to" ["scribe","other"] 4 (ϟ4 K ϖc ϖg)) (ϰi:Cal P w K mg base "_law_filter" ["_law_script","_law_scribe"] 4 (ϵI K)) (ϰH:Cal1 P w K mg base "either_of" ["one","other"] 2 (ϱx K ϖc ϖg)) {f:Addr}{fd:FuncData} (F:Fun K "law" "law" ϵO f fd):FnOk P w K mg base CX0 6 f fd ["_law_script"] (ϝl K):=by
 refine F.ok sc_law (fun vs H Q E h=>?_) (fun cdv A outer s H vs Q E hr h=>?_)
 ·obtain⟨a,ns,rfl,_⟩:=h;rfl
 obtain⟨a,ns,rfl,hS,h63,q⟩:=h
 refine⟨_,(ϖf (ϕF (i:=1) sc_law.nd rfl (Or.inl rfl) (by rfl) (by rfl) (ϕs (N':=["_law_k","_law_script"]) (js:=[none,some 0]) rfl (by decide +kernel) rfl (by decide +kernel) rfl rfl) (ϕX (by rfl) B.range (ϖa (hs:=ϑ7) (ϖ8 (kLen (K:=K)) (by rfl) B.len ϕZ (ϖa (hs:=ϖA) (ϕk (kSl (K:=K) rSlL ϟc) (pv 0) ϕS (ϕo ϖi)) ϖh)) ϖh)) (fun _ _ _ _ _=>(ϖr (i:=0) (show List.Nodup (["_law_k","_law_script"]:List Str) by decide +kernel) rfl (Or.inl rfl))) (fun _ _ _ _ _=>ϕr) (fun _ _ _ _ _=>(ϖ8 (ϝz (K:=K) rSumI (ϟV (by rfl))) (by rfl) B.sum bt_sum (ϖa (hs:=ϖA) (kPE (K:=K) (fun k=>tSl3 k _ _ _ _) (pe_sl3 (pv 1) (ϕo (pv 0)) (ϕo ϖi) ϖi)) ϖh))))
   (ϖf (ϖp (i:=2) sc_law.nd rfl (Or.inl rfl) (ϖE ϰM hr (by decide:5≤5) (by rfl) (ϖa (pv 1) ϖh)))
   (ϖf (ϖp (i:=3) sc_law.nd rfl (Or.inl rfl) (ϱf ϱk (ϰG ϕz hr (by decide:5≤5) (by rfl) ϰ9 (ϖa (pv 2) ϖh)) ϕH (ϖY _)))
   (ϖf (ϑx (ϖI ϛS (ϱf ϱk (ϰG ϕz hr (by decide:5≤5) (by rfl) ϰ9 (ϖa (hs:=ϑ7) (ϖE ϰ6 hr (by decide:2≤5) (by rfl) (ϖa (pv 2) ϖh)) ϖh)) ϕH (ϖY _)) (pv 3) (ϖY _)) (ϖk (ϖF ϛD)) ϖN)
   (ϖf (ϑx (PW.pt (ϵn (ϡh (pv 3)) (ϱa (ϖI ϟv (ϰG ϕz hr (by decide:5≤5) (by rfl) ϰ9 (ϖa (hs:=ϑ7) (ϰG ϱC hr (by decide:4≤5) (by rfl) ϰ9 (ϖa (pv 2) (ϖa (hs:=ϑ7) (ϖE ϰi hr (by decide:4≤5) (by rfl) (ϖa (hs:=ϖA) (ϕk (kSl (K:=K) rSlL ϟc) (pv 1) ϕS (ϕo ϖi)) (ϖa (pv 2) ϖh))) ϖh))) ϖh)) ϕH (ϖY _))))) (ϖk (ϖF ϛD)) ϖN)
   (ϖk (ϖF (L2.pe_or (ϱf ϱn (ϖo (kIx (K:=K) rIxT ϖl) (pv 2) ϖi (by intro _ _;rfl)) ϖi (ϖY _)) (pe_one (ϱf ϵS (ϱf ϱk (ϰG ϕz hr (by decide:5≤5) (by rfl) ϰ9 (ϖa (hs:=ϑ7) (ϰG ϰH hr (by decide:2≤5) (by rfl) ϰ9 (ϖa (pv 2) (ϖa (pv 2) ϖh))) ϖh)) ϕH (ϖY _)) (pv 3) (ϖY _))))))))))),?_⟩
 refine⟨_,rfl,_,rfl,a,_,rfl,hS,fun p hp=>?_⟩
 have g0:=ϖe hp (.lst (cutV (ns.map V.int) none (some 21)))
 have e0:=ϖd (H:=H) (a:=p) (o:=.lst (cutV (ns.map V.int) none (some 21)))
 have l21:(cutV (ns.map V.int) none (some 21)).length≤21:=cut_21 (ns.map V.int) 21
 generalize upd H p (.lst (cutV (ns.map V.int) none (some 21)))=H0 at g0 e0⊢
 generalize cutV (ns.map V.int) none (some 21)=cs at e0 l21⊢
 refine⟨p,cs,rfl,.inl (SqL.of e0),_,rfl,by omega,by omega,?_⟩
 have lz:(cs.length:Int).toNat≤21:=by omega
 refine ϵo (fun i ys τ H'=>Same H H'∧(∃ x,τ=[x,some (.ref a)])∧∃ms:List Int,ys=ms.map V.int∧ms.length≤i) ⟨g0,⟨_,rfl⟩,[],rfl,Nat.le_refl _⟩ ?_ ?_
 ·rintro i ys τ H1 hi ⟨g1,⟨x,rfl⟩,ms,rfl,hm⟩
  refine⟨_,rfl,_,rfl,_,rfl,_,rfl,a,_,_,rfl,rfl,(by decide),g1.seq hS,fun p2 zs hp2 hsub _=>?_⟩
  obtain⟨ws,rfl⟩:=ϡg zs hsub
  refine⟨p2,ws,rfl,SqL.of ϖd,fun n=>⟨szl (by rw[List.length_map];omega),g1.trans (ϖe hp2 _),⟨_,rfl⟩,ms++[n],by rw[List.map_append];rfl,by rw[List.length_append,List.length_singleton];omega⟩⟩
 rintro ys τ H1 ⟨g1,_,ms,rfl,hm⟩ pc hpc
 have g2:=ϖe hpc (.lst (ms.map V.int))
 have e2:=ϖd (H:=H1) (a:=pc) (o:=.lst (ms.map V.int))
 generalize upd H1 pc (.lst (ms.map V.int))=H2 at g2 e2⊢
 have hC:=SqL.of (K:=K) e2
 clear g0 e0 hp g1 hS g2 e2 hpc
 refine⟨_,rfl,pc,ms,rfl,hC,by omega,fun v H3 s pb ps pe g3 hV dr=>?_⟩
 obtain⟨b,hb⟩:∃b:Bool,b=true↔ϕG s:=by
  by_cases h:ϕG s
  ·exact⟨true,⟨fun _=>h,fun _=>rfl⟩⟩
  ·exact⟨false,⟨(fun z=>nomatch z),fun z=>absurd z h⟩⟩
 refine⟨_,rfl,?_⟩
 dsimp only[tNil]
 refine ϝw hV dr.rd hb fun x H4 g4 e4=>⟨rfl,?_⟩
 rw[e4]
 clear e4 x
 have hV4:=hV.mono g4
 refine⟨_,rfl,v,s,pb,ps,pe,rfl,hV4,bdOf dr,fun v5 H5 pb5 ps5 pe5 g5 hM _=>?_⟩
 dsimp only[tNil]
 refine ϝw hM.v dr.rdM (hb.trans (ϡB dr.n).symm) fun x H6 g6 e6=>⟨rfl,?_⟩
 rw[e6]
 clear e6 x
 refine⟨_,rfl,rfl,_,rfl,ϟa (fun c=>absurd rfl c) (fun _=>?_)⟩
 have g36:=(g4.trans g5).trans g6
 have fin:∀H7,Same H3 H7→tRet (tOrV (tOp (rI0 fun i j=>V.bl (decide (j < i))) (tOp (rIxT K) (tVar 2) (tC (V.int 1))) (tC (V.int 4))) (tOp rEq (tOp (fun x y H Q=>y=V.non∧Q (V.bl (decide (x=V.non))) H) (tFn1 (spTW K ϖg) E0 (ϟ2 (tFn1 (ϱx K ϖc ϖg) E0 (ϟ2 (tVar 2) (ϟ2 (tVar 2) tNil))) tNil)) (tC V.non)) (tVar 3))) { nx:=fun x H'=>Q V.non H',rt:=Q } [some (V.ref a),some (V.ref pc),some v,some (V.bl b)] H7:=by
  intro H7 g7
  have hV7:=hV.mono g7
  have lens:ϛj s:=⟨by have:=dr.lb;omega,by have:=dr.ls;omega,by have:=dr.le;omega⟩
  obtain⟨av,yb,ys,ye,ev,t1,_⟩:=id hV7
  subst ev
  refine⟨_,rfl,_,_,_,_,rfl,rfl,t1,rfl,_,_,rfl,rfl,_,rfl,iteB (fun _=>q _) (fun h=>?_)⟩
  have h4:s.rooms≤4:=by have:=of_decide_eq_false h;omega
  refine⟨_,rfl,_,rfl,_,s,pb,ps,pe,_,s,pb,ps,pe,rfl,hV7,hV7,lens,lens,fun c=>absurd rfl c,fun _ c=>absurd c (by omega),fun _ _ v8 H8 pb8 ps8 pe8 g8 hE _=>?_⟩
  dsimp only[tNil]
  refine ϝw hE.v (dr.rdE h4) (hb.trans (ϲB dr.n.ok).symm) fun x H9 g9 e9=>⟨rfl,?_⟩
  rw[e9]
  refine⟨_,rfl,rfl,?_⟩
  rw[decide_eq_true rfl]
  exact q _
 refine⟨_,rfl,b,rfl,iteB (fun eb=>?_) (fun _=>iteF (fin _ g36))⟩
 have hV6:=hV.mono g36
 have hC6:=(g3.trans g36).seq hC
 refine⟨_,rfl,_,rfl,_,rfl,pc,_,rfl,hC6,fun p9 hp9=>?_⟩
 have ec:cutV (ms.map V.int) none (some 9)=(ms.take 9).map V.int:=ϝA ms 9
 rw[ec]
 have g7:=ϖe hp9 (.lst ((ms.take 9).map V.int))
 have e7:=ϖd (H:=H6) (a:=p9) (o:=.lst ((ms.take 9).map V.int))
 generalize upd H6 p9 (.lst ((ms.take 9).map V.int))=H7 at g7 e7⊢
 have l9:(ms.take 9).length≤21:=by rw[List.length_take];omega
 refine⟨_,rfl,p9,ms.take 9,v,s,pb,ps,pe,rfl,SqL.of e7,l9,hV6.mono g7,dr,fun w H8 u qb qs qe g8 hU fl=>?_⟩
 have g68:=g7.trans g8
 have b1:Smk s:=⟨by have:=dr.lb;omega,by have:=dr.ls;omega,by have:=dr.le;omega⟩
 have b2:Smk u:=⟨by have:=fl.lb;omega,by have:=fl.ls;omega,by have:=fl.le;omega⟩
 have r8:=fl.r8
 refine⟨v,s,pb,ps,pe,w,u,qb,qs,qe,rfl,hV6.mono g68,hU,b1,b2,⟨dr.n.r0,by have:=dr.n.r8;omega⟩,⟨fl.r0,by have:=fl.rm;omega⟩,fun c=>absurd fl.g.symm c,fun _ c=>absurd c (by omega),fun _ _ v9 H9 pb9 ps9 pe9 g9 hK _=>?_⟩
 dsimp only[tNil]
 refine ϝw (b:=true) hK.v (dr.rdK fl) ⟨fun _=>ϲI fl.ok (hb.mp eb),fun _=>rfl⟩ fun x H10 g10 e10=>⟨rfl,?_⟩
 rw[e10]
 exact⟨_,rfl,iteF (fin _ (((g36.trans g68).trans g9).trans g10))⟩
end
theorem ϰa {α:Type}:∀{us:List α} (_:us.length=1),∃u0,us=[u0]
 |[u0],_=>⟨u0,rfl⟩
theorem ϰL {α:Type}:∀{us:List α} (_:us.length=2),∃u0 u1,us=[u0,u1]
 |[u0,u1],_=>⟨u0,u1,rfl⟩
theorem ϵP {α:Type}:∀{us:List α} (_:us.length=3),∃u0 u1 u2,us=[u0,u1,u2]
 |[u0,u1,u2],_=>⟨u0,u1,u2,rfl⟩
theorem len_4 {α:Type}:∀{us:List α} (_:us.length=4),∃u0 u1 u2 u3,us=[u0,u1,u2,u3]
 |[u0,u1,u2,u3],_=>⟨u0,u1,u2,u3,rfl⟩
theorem all_mk {l:PySem.W.OpenLaw}{w:World}{K:Frag}{h:Heap}{mg:Str→Option Value}{fa f0 f1 f2 f3 f4 f5 f6 f7 f8 f9 f10 f11 f12 f13 f14 f15 f16 f17 f18 f19 f20 f21 f22 f23 f24 f25 f26 f27 f28 f29 f30 f31 f32 f33 f34 f35 f36 f37 f38 f39 f40 f41 f42 f43 ϖc ϖg:Addr} (X:K.In h) (G:h.Ns mainGlobals mg) (hfa:mg "law"=some (.ref fa))
  {od0 an0 od1 an1 od2 an2 od3 an3 od4 an4 od5 an5 od6 an6 od7 an7 od8 an8 od9 an9 od10 an10 od11 an11 od12 an12 od13 an13 od14 an14 od15 an15 od16 an16 od17 an17 od18 an18 od19 an19 od20 an20 od21 an21 od22 an22 od23 an23 od24 an24 od25 an25 od26 an26 od27 an27 od28 an28 od29 an29 od30 an30 od31 an31 od32 an32 od33 an33 od34 an34 od35 an35 od36 an36 od37 an37 od38 an38 od39 an39 od40 an40 od41 an41 od42 an42 od43 an43:Option Addr}{sl0 sl1 sl2 sl3 sl4 sl5 sl6 sl7 sl8 sl9 sl10 sl11 sl12 sl13 sl14 sl15 sl16 sl17 sl18 sl19 sl20 sl21 sl22 sl23 sl24 sl25 sl26 sl27 sl28 sl29 sl30 sl31 sl32 sl33 sl34 sl35 sl36 sl37 sl38 sl39 sl40 sl41 sl42 sl43:Array (Option Value)}{oc0 kV0 dc0 pm0 cd0 ct0 oc1 kV1 dc1 pm1 cd1 ct1 oc2 kV2 dc2 pm2 cd2 ct2 oc3 kV3 dc3 pm3 cd3 ct3 oc4 kV4 dc4 pm4 cd4 ct4 oc5 kV5 dc5 pm5 cd5 ct5 oc6 kV6 dc6 pm6 cd6 ct6 oc7 kV7 dc7 pm7 cd7 ct7 oc8 kV8 dc8 pm8 cd8 ct8 oc9 kV9 dc9 pm9 cd9 ct9 oc10 kV10 dc10 pm10 cd10 ct10 oc11 kV11 dc11 pm11 cd11 ct11 oc12 kV12 dc12 pm12 cd12 ct12 oc13 kV13 dc13 pm13 cd13 ct13 oc14 kV14 dc14 pm14 cd14 ct14 oc15 kV15 dc15 pm15 cd15 ct15 oc16 kV16 dc16 pm16 cd16 ct16 oc17 kV17 dc17 pm17 cd17 ct17 oc18 kV18 dc18 pm18 cd18 ct18 oc19 kV19 dc19 pm19 cd19 ct19 oc20 kV20 dc20 pm20 cd20 ct20 oc21 kV21 dc21 pm21 cd21 ct21 oc22 kV22 dc22 pm22 cd22 ct22 oc23 kV23 dc23 pm23 cd23 ct23 oc24 kV24 dc24 pm24 cd24 ct24 oc25 kV25 dc25 pm25 cd25 ct25 oc26 kV26 dc26 pm26 cd26 ct26 oc27 kV27 dc27 pm27 cd27 ct27 oc28 kV28 dc28 pm28 cd28 ct28 oc29 kV29 dc29 pm29 cd29 ct29 oc30 kV30 dc30 pm30 cd30 ct30 oc31 kV31 dc31 pm31 cd31 ct31 oc32 kV32 dc32 pm32 cd32 ct32 oc33 kV33 dc33 pm33 cd33 ct33 oc34 kV34 dc34 pm34 cd34 ct34 oc35 kV35 dc35 pm35 cd35 ct35 oc36 kV36 dc36 pm36 cd36 ct36 oc37 kV37 dc37 pm37 cd37 ct37 oc38 kV38 dc38 pm38 cd38 ct38 oc39 kV39 dc39 pm39 cd39 ct39 oc40 kV40 dc40 pm40 cd40 ct40 oc41 kV41 dc41 pm41 cd41 ct41 oc42 kV42 dc42 pm42 cd42 ct42 oc43 kV43 dc43 pm43 cd43 ct43:Value}
  (a0:nsIn K mainGlobals "refuse_other_signs"=some (some (.ref f0))) (l0:K.lookup f0=some ⟨oc0,od0,.func (fnOf "refuse_other_signs" "refuse_other_signs" (ϖB ϖX) (ϖy ϖX) (ϖj ϖX) .none kV0 dc0 pm0 an0 cd0 ct0),sl0⟩) (c0:codeIn K cd0 "refuse_other_signs"=true) (k0:keepIn K (.ref f0)=true)
  (a1:nsIn K mainGlobals "refuse_many_pairs"=some (some (.ref f1))) (l1:K.lookup f1=some ⟨oc1,od1,.func (fnOf "refuse_many_pairs" "refuse_many_pairs" (ϖB ϖ2) (ϖy ϖ2) (ϖj ϖ2) .none kV1 dc1 pm1 an1 cd1 ct1),sl1⟩) (c1:codeIn K cd1 "refuse_many_pairs"=true) (k1:keepIn K (.ref f1)=true)
  (a2:nsIn K mainGlobals "places_at"=some (some (.ref f2))) (l2:K.lookup f2=some ⟨oc2,od2,.func (fnOf "places_at" "places_at" (ϖB ϕe) (ϖy ϕe) (ϖj ϕe) .none kV2 dc2 pm2 an2 cd2 ct2),sl2⟩) (c2:codeIn K cd2 "places_at"=true) (k2:keepIn K (.ref f2)=true)
  (a3:nsIn K mainGlobals "traces_from"=some (some (.ref f3))) (l3:K.lookup f3=some ⟨oc3,od3,.func (fnOf "traces_from" "traces_from" (ϖB ϑF) (ϖy ϑF) (ϖj ϑF) .none kV3 dc3 pm3 an3 cd3 ct3),sl3⟩) (c3:codeIn K cd3 "traces_from"=true) (k3:keepIn K (.ref f3)=true)
  (a4:nsIn K mainGlobals "traces_from_begins"=some (some (.ref f4))) (l4:K.lookup f4=some ⟨oc4,od4,.func (fnOf "traces_from_begins" "traces_from_begins" (ϖB ϖT) (ϖy ϖT) (ϖj ϖT) .none kV4 dc4 pm4 an4 cd4 ct4),sl4⟩) (c4:codeIn K cd4 "traces_from_begins"=true) (k4:keepIn K (.ref f4)=true)
  (a5:nsIn K mainGlobals "traces_to_ends"=some (some (.ref f5))) (l5:K.lookup f5=some ⟨oc5,od5,.func (fnOf "traces_to_ends" "traces_to_ends" (ϖB ϑf) (ϖy ϑf) (ϖj ϑf) .none kV5 dc5 pm5 an5 cd5 ct5),sl5⟩) (c5:codeIn K cd5 "traces_to_ends"=true) (k5:keepIn K (.ref f5)=true)
  (a6:nsIn K mainGlobals "trail_of"=some (some (.ref f6))) (l6:K.lookup f6=some ⟨oc6,od6,.func (fnOf "trail_of" "trail_of" (ϖB ϕA) (ϖy ϕA) (ϖj ϕA) .none kV6 dc6 pm6 an6 cd6 ct6),sl6⟩) (c6:codeIn K cd6 "trail_of"=true) (k6:keepIn K (.ref f6)=true)
  (a7:nsIn K mainGlobals "refuse_many_rooms"=some (some (.ref f7))) (l7:K.lookup f7=some ⟨oc7,od7,.func (fnOf "refuse_many_rooms" "refuse_many_rooms" (ϖB ϖ3) (ϖy ϖ3) (ϖj ϖ3) .none kV7 dc7 pm7 an7 cd7 ct7),sl7⟩) (c7:codeIn K cd7 "refuse_many_rooms"=true) (k7:keepIn K (.ref f7)=true)
  (a8:nsIn K mainGlobals "two_of_each"=some (some (.ref f8))) (l8:K.lookup f8=some ⟨oc8,od8,.func (fnOf "two_of_each" "two_of_each" (ϖB ϑD) (ϖy ϑD) (ϖj ϑD) .none kV8 dc8 pm8 an8 cd8 ct8),sl8⟩) (c8:codeIn K cd8 "two_of_each"=true) (k8:keepIn K (.ref f8)=true)
  (a9:nsIn K mainGlobals "doubled_marks"=some (some (.ref f9))) (l9:K.lookup f9=some ⟨oc9,od9,.func (fnOf "doubled_marks" "doubled_marks" (ϖB ϑo) (ϖy ϑo) (ϖj ϑo) .none kV9 dc9 pm9 an9 cd9 ct9),sl9⟩) (c9:codeIn K cd9 "doubled_marks"=true) (k9:keepIn K (.ref f9)=true)
  (a10:nsIn K mainGlobals "places_by_sign"=some (some (.ref f10))) (l10:K.lookup f10=some ⟨oc10,od10,.func (fnOf "places_by_sign" "places_by_sign" (ϖB ϑe) (ϖy ϑe) (ϖj ϑe) .none kV10 dc10 pm10 an10 cd10 ct10),sl10⟩) (c10:codeIn K cd10 "places_by_sign"=true) (k10:keepIn K (.ref f10)=true)
  (a11:nsIn K mainGlobals "doubled_steps"=some (some (.ref f11))) (l11:K.lookup f11=some ⟨oc11,od11,.func (fnOf "doubled_steps" "doubled_steps" (ϖB ϑn) (ϖy ϑn) (ϖj ϑn) .none kV11 dc11 pm11 an11 cd11 ct11),sl11⟩) (c11:codeIn K cd11 "doubled_steps"=true) (k11:keepIn K (.ref f11)=true)
  (a12:nsIn K mainGlobals "doubled_of"=some (some (.ref f12))) (l12:K.lookup f12=some ⟨oc12,od12,.func (fnOf "doubled_of" "doubled_of" (ϖB ϑW) (ϖy ϑW) (ϖj ϑW) .none kV12 dc12 pm12 an12 cd12 ct12),sl12⟩) (c12:codeIn K cd12 "doubled_of"=true) (k12:keepIn K (.ref f12)=true)
  (a13:nsIn K mainGlobals "behind_one_another"=some (some (.ref f13))) (l13:K.lookup f13=some ⟨oc13,od13,.func (fnOf "behind_one_another" "behind_one_another" (ϖB ϖU) (ϖy ϖU) (ϖj ϖU) .none kV13 dc13 pm13 an13 cd13 ct13),sl13⟩) (c13:codeIn K cd13 "behind_one_another"=true) (k13:keepIn K (.ref f13)=true)
  (a14:nsIn K mainGlobals "words_ahead"=some (some (.ref f14))) (l14:K.lookup f14=some ⟨oc14,od14,.func (fnOf "words_ahead" "words_ahead" (ϖB ϑH) (ϖy ϑH) (ϖj ϑH) .none kV14 dc14 pm14 an14 cd14 ct14),sl14⟩) (c14:codeIn K cd14 "words_ahead"=true) (k14:keepIn K (.ref f14)=true)
  (a15:nsIn K mainGlobals "words_behind"=some (some (.ref f15))) (l15:K.lookup f15=some ⟨oc15,od15,.func (fnOf "words_behind" "words_behind" (ϖB ϑw) (ϖy ϑw) (ϖj ϑw) .none kV15 dc15 pm15 an15 cd15 ct15),sl15⟩) (c15:codeIn K cd15 "words_behind"=true) (k15:keepIn K (.ref f15)=true)
  (a16:nsIn K mainGlobals "are_apart"=some (some (.ref f16))) (l16:K.lookup f16=some ⟨oc16,od16,.func (fnOf "are_apart" "are_apart" (ϖB ϑ9) (ϖy ϑ9) (ϖj ϑ9) .none kV16 dc16 pm16 an16 cd16 ct16),sl16⟩) (c16:codeIn K cd16 "are_apart"=true) (k16:keepIn K (.ref f16)=true)
  (a17:nsIn K mainGlobals "way_apart_by_begin"=some (some (.ref f17))) (l17:K.lookup f17=some ⟨oc17,od17,.func (fnOf "way_apart_by_begin" "way_apart_by_begin" (ϖB ϖV) (ϖy ϖV) (ϖj ϖV) .none kV17 dc17 pm17 an17 cd17 ct17),sl17⟩) (c17:codeIn K cd17 "way_apart_by_begin"=true) (k17:keepIn K (.ref f17)=true)
  (a18:nsIn K mainGlobals "trail_from_begin"=some (some (.ref f18))) (l18:K.lookup f18=some ⟨oc18,od18,.func (fnOf "trail_from_begin" "trail_from_begin" (ϖB ϖ_) (ϖy ϖ_) (ϖj ϖ_) .none kV18 dc18 pm18 an18 cd18 ct18),sl18⟩) (c18:codeIn K cd18 "trail_from_begin"=true) (k18:keepIn K (.ref f18)=true)
  (a19:nsIn K mainGlobals "way_apart_by_step"=some (some (.ref f19))) (l19:K.lookup f19=some ⟨oc19,od19,.func (fnOf "way_apart_by_step" "way_apart_by_step" (ϖB ϖ1) (ϖy ϖ1) (ϖj ϖ1) .none kV19 dc19 pm19 an19 cd19 ct19),sl19⟩) (c19:codeIn K cd19 "way_apart_by_step"=true) (k19:keepIn K (.ref f19)=true)
  (a20:nsIn K mainGlobals "way_apart_by_end"=some (some (.ref f20))) (l20:K.lookup f20=some ⟨oc20,od20,.func (fnOf "way_apart_by_end" "way_apart_by_end" (ϖB ϖ7) (ϖy ϖ7) (ϖj ϖ7) .none kV20 dc20 pm20 an20 cd20 ct20),sl20⟩) (c20:codeIn K cd20 "way_apart_by_end"=true) (k20:keepIn K (.ref f20)=true)
  (a21:nsIn K mainGlobals "way_apart"=some (some (.ref f21))) (l21:K.lookup f21=some ⟨oc21,od21,.func (fnOf "way_apart" "way_apart" (ϖB ϕc) (ϖy ϕc) (ϖj ϕc) .none kV21 dc21 pm21 an21 cd21 ct21),sl21⟩) (c21:codeIn K cd21 "way_apart"=true) (k21:keepIn K (.ref f21)=true)
  (a22:nsIn K mainGlobals "single_way"=some (some (.ref f22))) (l22:K.lookup f22=some ⟨oc22,od22,.func (fnOf "single_way" "single_way" (ϖB ϑU) (ϖy ϑU) (ϖj ϑU) .none kV22 dc22 pm22 an22 cd22 ct22),sl22⟩) (c22:codeIn K cd22 "single_way"=true) (k22:keepIn K (.ref f22)=true)
  (a23:nsIn K mainGlobals "two_ways"=some (some (.ref f23))) (l23:K.lookup f23=some ⟨oc23,od23,.func (fnOf "two_ways" "two_ways" (ϖB ϕE) (ϖy ϕE) (ϖj ϕE) .none kV23 dc23 pm23 an23 cd23 ct23),sl23⟩) (c23:codeIn K cd23 "two_ways"=true) (k23:keepIn K (.ref f23)=true)
  (a24:nsIn K mainGlobals "each_once"=some (some (.ref f24))) (l24:K.lookup f24=some ⟨oc24,od24,.func (fnOf "each_once" "each_once" (ϖB ϑ8) (ϖy ϑ8) (ϖj ϑ8) .none kV24 dc24 pm24 an24 cd24 ct24),sl24⟩) (c24:codeIn K cd24 "each_once"=true) (k24:keepIn K (.ref f24)=true)
  (a25:nsIn K mainGlobals "turned"=some (some (.ref f25))) (l25:K.lookup f25=some ⟨oc25,od25,.func (fnOf "turned" "turned" (ϖB ϰx) (ϖy ϰx) (ϖj ϰx) .none kV25 dc25 pm25 an25 cd25 ct25),sl25⟩) (c25:codeIn K cd25 "turned"=true) (k25:keepIn K (.ref f25)=true)
  (a26:nsIn K mainGlobals "mirrored"=some (some (.ref f26))) (l26:K.lookup f26=some ⟨oc26,od26,.func (fnOf "mirrored" "mirrored" (ϖB ϕD) (ϖy ϕD) (ϖj ϕD) .none kV26 dc26 pm26 an26 cd26 ct26),sl26⟩) (c26:codeIn K cd26 "mirrored"=true) (k26:keepIn K (.ref f26)=true)
  (a27:nsIn K mainGlobals "either_of"=some (some (.ref f27))) (l27:K.lookup f27=some ⟨oc27,od27,.func (fnOf "either_of" "either_of" (ϖB ϕf) (ϖy ϕf) (ϖj ϕf) .none kV27 dc27 pm27 an27 cd27 ct27),sl27⟩) (c27:codeIn K cd27 "either_of"=true) (k27:keepIn K (.ref f27)=true)
  (a28:nsIn K mainGlobals "kept_marks"=some (some (.ref f28))) (l28:K.lookup f28=some ⟨oc28,od28,.func (fnOf "kept_marks" "kept_marks" (ϖB ϑ0) (ϖy ϑ0) (ϖj ϑ0) .none kV28 dc28 pm28 an28 cd28 ct28),sl28⟩) (c28:codeIn K cd28 "kept_marks"=true) (k28:keepIn K (.ref f28)=true)
  (a29:nsIn K mainGlobals "moves_by_sign"=some (some (.ref f29))) (l29:K.lookup f29=some ⟨oc29,od29,.func (fnOf "moves_by_sign" "moves_by_sign" (ϖB ϑl) (ϖy ϑl) (ϖj ϑl) .none kV29 dc29 pm29 an29 cd29 ct29),sl29⟩) (c29:codeIn K cd29 "moves_by_sign"=true) (k29:keepIn K (.ref f29)=true)
  (a30:nsIn K mainGlobals "kept_steps"=some (some (.ref f30))) (l30:K.lookup f30=some ⟨oc30,od30,.func (fnOf "kept_steps" "kept_steps" (ϖB ϑX) (ϖy ϑX) (ϖj ϑX) .none kV30 dc30 pm30 an30 cd30 ct30),sl30⟩) (c30:codeIn K cd30 "kept_steps"=true) (k30:keepIn K (.ref f30)=true)
  (a31:nsIn K mainGlobals "kept_to"=some (some (.ref f31))) (l31:K.lookup f31=some ⟨oc31,od31,.func (fnOf "kept_to" "kept_to" (ϖB ϕV) (ϖy ϕV) (ϖj ϕV) .none kV31 dc31 pm31 an31 cd31 ct31),sl31⟩) (c31:codeIn K cd31 "kept_to"=true) (k31:keepIn K (.ref f31)=true)
  (a32:nsIn K mainGlobals "_law_cell_at"=some (some (.ref f32))) (l32:K.lookup f32=some ⟨oc32,od32,.func (fnOf "_law_cell_at" "_law_cell_at" (ϖB ϑz) (ϖy ϑz) (ϖj ϑz) .none kV32 dc32 pm32 an32 cd32 ct32),sl32⟩) (c32:codeIn K cd32 "_law_cell_at"=true) (k32:keepIn K (.ref f32)=true)
  (a33:nsIn K mainGlobals "_law_mixed"=some (some (.ref f33))) (l33:K.lookup f33=some ⟨oc33,od33,.func (fnOf "_law_mixed" "_law_mixed" (ϖB ϕi) (ϖy ϕi) (ϖj ϕi) .none kV33 dc33 pm33 an33 cd33 ct33),sl33⟩) (c33:codeIn K cd33 "_law_mixed"=true) (k33:keepIn K (.ref f33)=true)
  (a34:nsIn K mainGlobals "_law_word"=some (some (.ref f34))) (l34:K.lookup f34=some ⟨oc34,od34,.func (fnOf "_law_word" "_law_word" (ϖB ϕy) (ϖy ϕy) (ϖj ϕy) .none kV34 dc34 pm34 an34 cd34 ct34),sl34⟩) (c34:codeIn K cd34 "_law_word"=true) (k34:keepIn K (.ref f34)=true)
  (a35:nsIn K mainGlobals "_law_signs"=some (some (.ref f35))) (l35:K.lookup f35=some ⟨oc35,od35,.func (fnOf "_law_signs" "_law_signs" (ϖB ϕb) (ϖy ϕb) (ϖj ϕb) .none kV35 dc35 pm35 an35 cd35 ct35),sl35⟩) (c35:codeIn K cd35 "_law_signs"=true) (k35:keepIn K (.ref f35)=true)
  (a36:nsIn K mainGlobals "_law_rest"=some (some (.ref f36))) (l36:K.lookup f36=some ⟨oc36,od36,.func (fnOf "_law_rest" "_law_rest" (ϖB ϕB) (ϖy ϕB) (ϖj ϕB) .none kV36 dc36 pm36 an36 cd36 ct36),sl36⟩) (c36:codeIn K cd36 "_law_rest"=true) (k36:keepIn K (.ref f36)=true)
  (a37:nsIn K mainGlobals "_law_plain"=some (some (.ref f37))) (l37:K.lookup f37=some ⟨oc37,od37,.func (fnOf "_law_plain" "_law_plain" (ϖB ϕd) (ϖy ϕd) (ϖj ϕd) .none kV37 dc37 pm37 an37 cd37 ct37),sl37⟩) (c37:codeIn K cd37 "_law_plain"=true) (k37:keepIn K (.ref f37)=true)
  (a38:nsIn K mainGlobals "_law_choices"=some (some (.ref f38))) (l38:K.lookup f38=some ⟨oc38,od38,.func (fnOf "_law_choices" "_law_choices" (ϖB ϑI) (ϖy ϑI) (ϖj ϑI) .none kV38 dc38 pm38 an38 cd38 ct38),sl38⟩) (c38:codeIn K cd38 "_law_choices"=true) (k38:keepIn K (.ref f38)=true)
  (a39:nsIn K mainGlobals "_law_twofold"=some (some (.ref f39))) (l39:K.lookup f39=some ⟨oc39,od39,.func (fnOf "_law_twofold" "_law_twofold" (ϖB ϑB) (ϖy ϑB) (ϖj ϑB) .none kV39 dc39 pm39 an39 cd39 ct39),sl39⟩) (c39:codeIn K cd39 "_law_twofold"=true) (k39:keepIn K (.ref f39)=true)
  (a40:nsIn K mainGlobals "_law_spoilt"=some (some (.ref f40))) (l40:K.lookup f40=some ⟨oc40,od40,.func (fnOf "_law_spoilt" "_law_spoilt" (ϖB ϑY) (ϖy ϑY) (ϖj ϑY) .none kV40 dc40 pm40 an40 cd40 ct40),sl40⟩) (c40:codeIn K cd40 "_law_spoilt"=true) (k40:keepIn K (.ref f40)=true)
  (a41:nsIn K mainGlobals "_law_drawn"=some (some (.ref f41))) (l41:K.lookup f41=some ⟨oc41,od41,.func (fnOf "_law_drawn" "_law_drawn" (ϖB ϕh) (ϖy ϕh) (ϖj ϕh) .none kV41 dc41 pm41 an41 cd41 ct41),sl41⟩) (c41:codeIn K cd41 "_law_drawn"=true) (k41:keepIn K (.ref f41)=true)
  (a42:nsIn K mainGlobals "_law_filter"=some (some (.ref f42))) (l42:K.lookup f42=some ⟨oc42,od42,.func (fnOf "_law_filter" "_law_filter" (ϖB ϑZ) (ϖy ϑZ) (ϖj ϑZ) .none kV42 dc42 pm42 an42 cd42 ct42),sl42⟩) (c42:codeIn K cd42 "_law_filter"=true) (k42:keepIn K (.ref f42)=true)
  (a43:nsIn K mainGlobals "law"=some (some (.ref f43))) (l43:K.lookup f43=some ⟨oc43,od43,.func (fnOf "law" "law" (ϖB ϵO) (ϖy ϵO) (ϖj ϵO) .none kV43 dc43 pm43 an43 cd43 ct43),sl43⟩) (c43:codeIn K cd43 "law"=true) (k43:keepIn K (.ref f43)=true)
  (z0:nsIn K mainGlobals "enumerate"=some none)
  (z1:nsIn K mainGlobals "len"=some none)
  (z2:nsIn K mainGlobals "list"=some none)
  (z3:nsIn K mainGlobals "max"=some none)
  (z4:nsIn K mainGlobals "min"=some none)
  (z5:nsIn K mainGlobals "range"=some none)
  (z6:nsIn K mainGlobals "reversed"=some none)
  (z7:nsIn K mainGlobals "sum"=some none)
  {gt0:Tok} (g0:nsIn K mainGlobals "BEGINS"=some (some (.int 2 gt0)))
  {gt1:Tok} (g1:nsIn K mainGlobals "ENDS"=some (some (.int 4 gt1)))
  {gt2:Tok} (g2:nsIn K mainGlobals "INTO"=some (some (.int 3 gt2)))
  {gt3:Tok} (g3:nsIn K mainGlobals "MOST_ROOMS"=some (some (.int 200 gt3)))
  {gt4:Tok} (g4:nsIn K mainGlobals "MOST_ROOMS_WITH_CHOICES"=some (some (.int 8 gt4)))
  {gt5:Tok} (g5:nsIn K mainGlobals "OUT_OF"=some (some (.int 0 gt5)))
  {gt6:Tok} (g6:nsIn K mainGlobals "PLACES"=some (some (.int 1 gt6)))
  {gt7:Tok} (g7:nsIn K mainGlobals "ROOMS"=some (some (.int 1 gt7)))
  {gt8:Tok} (g8:nsIn K mainGlobals "SIGNS"=some (some (.int 0 gt8)))
  {gt9:Tok} (g9:nsIn K mainGlobals "STEPS"=some (some (.int 3 gt9)))
  {gt10:Tok} (g10:nsIn K mainGlobals "WORDS"=some (some (.int 2 gt10)))
  (x0:nsIn K mainGlobals "OtherSigns"=some (some (.ref ϖc)))
  (x1:nsIn K mainGlobals "TooMany"=some (some (.ref ϖg)))
  (x2:PySem.W.excIn K ϖc bmV "ValueError.__new__"=true)
  (x3:findIn K (.ref ϖc) "__getattribute__"=some (some (.builtin "BaseException.__getattribute__")))
  (x4:findIn K (.ref ϖc) "__getattr__"=some none)
  (x5:mroIn K ϖc (.type "BaseException")=some true)
  (x6:(PySem.W.clsIn K ϖc).isSome=true)
  (x7:findIn K (.ref ϖc) "__class__"=some (some (.builtin "object.__class__")))
  (x8:PySem.W.specialIn K (.builtin "object.__class__") "__get__"=some (some (.builtin "getset_descriptor.__get__")))
  (x9:PySem.W.takesIn K (.builtin "object.__class__")=some true)
  (x10:mroIn K ϖc (.type "object")=some true)
  (x11:PySem.W.excIn K ϖg bmV "ValueError.__new__"=true)
  (x12:findIn K (.ref ϖg) "__getattribute__"=some (some (.builtin "BaseException.__getattribute__")))
  (x13:findIn K (.ref ϖg) "__getattr__"=some none)
  (x14:mroIn K ϖg (.type "BaseException")=some true)
  (x15:(PySem.W.clsIn K ϖg).isSome=true)
  (x16:findIn K (.ref ϖg) "__class__"=some (some (.builtin "object.__class__")))
  (x17:PySem.W.specialIn K (.builtin "object.__class__") "__get__"=some (some (.builtin "getset_descriptor.__get__")))
  (x18:PySem.W.takesIn K (.builtin "object.__class__")=some true)
  (x19:mroIn K ϖg (.type "object")=some true) :
  ∃fd:FuncData,(∀ (s:Shared) (v:Value),BindsTo s fd ⟨[v],[]⟩ [("_law_script",v)])∧∀base:Heap,K.In base→base.Ns mainGlobals mg→FnOk l.prog w K mg base CX0 6 fa fd ["_law_script"] (ϝl K):=by
 have e:=hfa.symm.trans (mg_of X G a43)
 cases e
 have B:Bi mg:=⟨mg_none_of X G z0,mg_none_of X G z1,mg_none_of X G z2,mg_none_of X G z3,mg_none_of X G z4,mg_none_of X G z5,mg_none_of X G z6,mg_none_of X G z7,⟨_,mg_of X G g0⟩,⟨_,mg_of X G g1⟩,⟨_,mg_of X G g2⟩,⟨_,mg_of X G g3⟩,⟨_,mg_of X G g4⟩,⟨_,mg_of X G g5⟩,⟨_,mg_of X G g6⟩,⟨_,mg_of X G g7⟩,⟨_,mg_of X G g8⟩,⟨_,mg_of X G g9⟩,⟨_,mg_of X G g10⟩⟩
 have nm_OtherSigns:=mg_of X G x0
 have nm_TooMany:=mg_of X G x1
 have own_OtherSigns:OwnX K mg "OtherSigns" ϖc:=⟨nm_OtherSigns,x2⟩
 have xc_OtherSigns:XCls K ϖc:=⟨x3,x4,x5,x6,x7,x8,x9,x10⟩
 have own_TooMany:OwnX K mg "TooMany" ϖg:=⟨nm_TooMany,x11⟩
 have xc_TooMany:XCls K ϖg:=⟨x12,x13,x14,x15,x16,x17,x18,x19⟩
 have XB:Xb K mg ϖc ϖg:=⟨nm_OtherSigns,nm_TooMany,own_OtherSigns,xc_OtherSigns,own_TooMany,xc_TooMany⟩
 have F0:=ϖO (st:=ϖX) l0 c0 k0
 have F1:=ϖO (st:=ϖ2) l1 c1 k1
 have F2:=ϖO (st:=ϕe) l2 c2 k2
 have F3:=ϖO (st:=ϑF) l3 c3 k3
 have F4:=ϖO (st:=ϖT) l4 c4 k4
 have F5:=ϖO (st:=ϑf) l5 c5 k5
 have F6:=ϖO (st:=ϕA) l6 c6 k6
 have F7:=ϖO (st:=ϖ3) l7 c7 k7
 have F8:=ϖO (st:=ϑD) l8 c8 k8
 have F9:=ϖO (st:=ϑo) l9 c9 k9
 have F10:=ϖO (st:=ϑe) l10 c10 k10
 have F11:=ϖO (st:=ϑn) l11 c11 k11
 have F12:=ϖO (st:=ϑW) l12 c12 k12
 have F13:=ϖO (st:=ϖU) l13 c13 k13
 have F14:=ϖO (st:=ϑH) l14 c14 k14
 have F15:=ϖO (st:=ϑw) l15 c15 k15
 have F16:=ϖO (st:=ϑ9) l16 c16 k16
 have F17:=ϖO (st:=ϖV) l17 c17 k17
 have F18:=ϖO (st:=ϖ_) l18 c18 k18
 have F19:=ϖO (st:=ϖ1) l19 c19 k19
 have F20:=ϖO (st:=ϖ7) l20 c20 k20
 have F21:=ϖO (st:=ϕc) l21 c21 k21
 have F22:=ϖO (st:=ϑU) l22 c22 k22
 have F23:=ϖO (st:=ϕE) l23 c23 k23
 have F24:=ϖO (st:=ϑ8) l24 c24 k24
 have F25:=ϖO (st:=ϰx) l25 c25 k25
 have F26:=ϖO (st:=ϕD) l26 c26 k26
 have F27:=ϖO (st:=ϕf) l27 c27 k27
 have F28:=ϖO (st:=ϑ0) l28 c28 k28
 have F29:=ϖO (st:=ϑl) l29 c29 k29
 have F30:=ϖO (st:=ϑX) l30 c30 k30
 have F31:=ϖO (st:=ϕV) l31 c31 k31
 have F32:=ϖO (st:=ϑz) l32 c32 k32
 have F33:=ϖO (st:=ϕi) l33 c33 k33
 have F34:=ϖO (st:=ϕy) l34 c34 k34
 have F35:=ϖO (st:=ϕb) l35 c35 k35
 have F36:=ϖO (st:=ϕB) l36 c36 k36
 have F37:=ϖO (st:=ϕd) l37 c37 k37
 have F38:=ϖO (st:=ϑI) l38 c38 k38
 have F39:=ϖO (st:=ϑB) l39 c39 k39
 have F40:=ϖO (st:=ϑY) l40 c40 k40
 have F41:=ϖO (st:=ϕh) l41 c41 k41
 have F42:=ϖO (st:=ϑZ) l42 c42 k42
 have F43:=ϖO (st:=ϵO) l43 c43 k43
 refine⟨fnOf "law" "law" (ϖB ϵO) (ϖy ϵO) (ϖj ϵO) .none kV43 dc43 pm43 an43 cd43 ct43,fun s v=>.of_eq rfl,fun base _ _=>?_⟩
 have ϖW:Cal1 l.prog w K mg base "refuse_other_signs" ["one","other"] 1 (ϵu K ϖc):=⟨_,_,ϰc (P:=l.prog) (w:=w) (base:=base) B XB  F0,F0.binds (ps:=["one","other"]) (fun _ _ _ _ _ _ us hl=>by obtain⟨u0,u1,rfl⟩:=ϰL hl;rfl),F0.kp,mg_of X G a0⟩
 have ϑT:Cal1 l.prog w K mg base "refuse_many_pairs" ["one","other"] 1 (ϵV K ϖg):=⟨_,_,ϰB (P:=l.prog) (w:=w) (base:=base) B XB  F1,F1.binds (ps:=["one","other"]) (fun _ _ _ _ _ _ us hl=>by obtain⟨u0,u1,rfl⟩:=ϰL hl;rfl),F1.kp,mg_of X G a1⟩
 have ϰK:Cal l.prog w K mg base "places_at" ["steps","side"] 1 (ϱY K):=⟨_,_,ϵ5 (P:=l.prog) (w:=w) (base:=base) B XB  F2,F2.binds (ps:=["steps","side"]) (fun _ _ _ _ _ _ us hl=>by obtain⟨u0,u1,rfl⟩:=ϰL hl;rfl),F2.kp,mg_of X G a2⟩
 have ϑA:Cal l.prog w K mg base "traces_from" ["marks","steps","near","far"] 2 (ϰ0 K):=⟨_,_,ϱ9 (P:=l.prog) (w:=w) (base:=base) B XB ϰK F3,F3.binds (ps:=["marks","steps","near","far"]) (fun _ _ _ _ _ _ us hl=>by obtain⟨u0,u1,u2,u3,rfl⟩:=len_4 hl;rfl),F3.kp,mg_of X G a3⟩
 have ϑM:Cal l.prog w K mg base "traces_from_begins" ["scribe"] 3 (ϡR K):=⟨_,_,ϰh (P:=l.prog) (w:=w) (base:=base) B XB ϑA F4,F4.binds (ps:=["scribe"]) (fun _ _ _ _ _ _ us hl=>by obtain⟨u0,rfl⟩:=ϰa hl;rfl),F4.kp,mg_of X G a4⟩
 have ϕp:Cal l.prog w K mg base "traces_to_ends" ["scribe"] 3 (ϟg K):=⟨_,_,ϰ4 (P:=l.prog) (w:=w) (base:=base) B XB ϑA F5,F5.binds (ps:=["scribe"]) (fun _ _ _ _ _ _ us hl=>by obtain⟨u0,rfl⟩:=ϰa hl;rfl),F5.kp,mg_of X G a5⟩
 have ϑG:Cal l.prog w K mg base "trail_of" ["room","traces","steps","near"] 1 (ϟn K):=⟨_,_,ϲH (P:=l.prog) (w:=w) (base:=base) B XB  F6,F6.binds (ps:=["room","traces","steps","near"]) (fun _ _ _ _ _ _ us hl=>by obtain⟨u0,u1,u2,u3,rfl⟩:=len_4 hl;rfl),F6.kp,mg_of X G a6⟩
 have ϑR:Cal1 l.prog w K mg base "refuse_many_rooms" ["scribe"] 1 (spMR K ϖg):=⟨_,_,ϰz (P:=l.prog) (w:=w) (base:=base) B XB  F7,F7.binds (ps:=["scribe"]) (fun _ _ _ _ _ _ us hl=>by obtain⟨u0,rfl⟩:=ϰa hl;rfl),F7.kp,mg_of X G a7⟩
 have ϑC:Cal l.prog w K mg base "two_of_each" ["keys"] 1 (ϝf K):=⟨_,_,ϱ8 (P:=l.prog) (w:=w) (base:=base) B XB  F8,F8.binds (ps:=["keys"]) (fun _ _ _ _ _ _ us hl=>by obtain⟨u0,rfl⟩:=ϰa hl;rfl),F8.kp,mg_of X G a8⟩
 have ϑ1:Cal l.prog w K mg base "doubled_marks" ["marks"] 2 (spDM K):=⟨_,_,ϱr (P:=l.prog) (w:=w) (base:=base) B XB ϑC F9,F9.binds (ps:=["marks"]) (fun _ _ _ _ _ _ us hl=>by obtain⟨u0,rfl⟩:=ϰa hl;rfl),F9.kp,mg_of X G a9⟩
 have ϕn:Cal l.prog w K mg base "places_by_sign" ["steps"] 2 (spPS K):=⟨_,_,ϱd (P:=l.prog) (w:=w) (base:=base) B XB ϑC F10,F10.binds (ps:=["steps"]) (fun _ _ _ _ _ _ us hl=>by obtain⟨u0,rfl⟩:=ϰa hl;rfl),F10.kp,mg_of X G a10⟩
 have ϕJ:Cal l.prog w K mg base "doubled_steps" ["steps"] 3 (spDS K):=⟨_,_,ϱq (P:=l.prog) (w:=w) (base:=base) B XB ϕn F11,F11.binds (ps:=["steps"]) (fun _ _ _ _ _ _ us hl=>by obtain⟨u0,rfl⟩:=ϰa hl;rfl),F11.kp,mg_of X G a11⟩
 have ϰn:Cal l.prog w K mg base "doubled_of" ["scribe"] 4 (spDb K):=⟨_,_,ϵC (P:=l.prog) (w:=w) (base:=base) B XB ϑ1 ϕJ F12,F12.binds (ps:=["scribe"]) (fun _ _ _ _ _ _ us hl=>by obtain⟨u0,rfl⟩:=ϰa hl;rfl),F12.kp,mg_of X G a12⟩
 have ϖC:Cal l.prog w K mg base "behind_one_another" ["ahead","behind"] 1 (spB1 K):=⟨_,_,ϕ8 (P:=l.prog) (w:=w) (base:=base) B XB  F13,F13.binds (ps:=["ahead","behind"]) (fun _ _ _ _ _ _ us hl=>by obtain⟨u0,u1,rfl⟩:=ϰL hl;rfl),F13.kp,mg_of X G a13⟩
 have ϑE:Cal l.prog w K mg base "words_ahead" ["double","ahead"] 2 (spWA K):=⟨_,_,ϱ6 (P:=l.prog) (w:=w) (base:=base) B XB ϖC F14,F14.binds (ps:=["double","ahead"]) (fun _ _ _ _ _ _ us hl=>by obtain⟨u0,u1,rfl⟩:=ϰL hl;rfl),F14.kp,mg_of X G a14⟩
 have ϑv:Cal l.prog w K mg base "words_behind" ["double","behind"] 2 (spWB K):=⟨_,_,ϱV (P:=l.prog) (w:=w) (base:=base) B XB ϖC F15,F15.binds (ps:=["double","behind"]) (fun _ _ _ _ _ _ us hl=>by obtain⟨u0,u1,rfl⟩:=ϰL hl;rfl),F15.kp,mg_of X G a15⟩
 have ϑs:Cal l.prog w K mg base "are_apart" ["ahead","behind"] 1 (spAp K):=⟨_,_,ϲd (P:=l.prog) (w:=w) (base:=base) B XB  F16,F16.binds (ps:=["ahead","behind"]) (fun _ _ _ _ _ _ us hl=>by obtain⟨u0,u1,rfl⟩:=ϰL hl;rfl),F16.kp,mg_of X G a16⟩
 have ϑL:Cal l.prog w K mg base "way_apart_by_begin" ["double","behind"] 3 (ϛt K):=⟨_,_,ϰj (P:=l.prog) (w:=w) (base:=base) B XB ϑv ϑs ϑG F17,F17.binds (ps:=["double","behind"]) (fun _ _ _ _ _ _ us hl=>by obtain⟨u0,u1,rfl⟩:=ϰL hl;rfl),F17.kp,mg_of X G a17⟩
 have ϖ9:Cal l.prog w K mg base "trail_from_begin" ["pair","ahead","double"] 2 (ϝG K):=⟨_,_,ϰO (P:=l.prog) (w:=w) (base:=base) B XB ϑG F18,F18.binds (ps:=["pair","ahead","double"]) (fun _ _ _ _ _ _ us hl=>by obtain⟨u0,u1,u2,rfl⟩:=ϵP hl;rfl),F18.kp,mg_of X G a18⟩
 have ϑQ:Cal l.prog w K mg base "way_apart_by_step" ["double","ahead","behind"] 3 (ϛ_ K):=⟨_,_,ϰD (P:=l.prog) (w:=w) (base:=base) B XB ϑE ϑv ϑs ϖC ϖ9 ϑG F19,F19.binds (ps:=["double","ahead","behind"]) (fun _ _ _ _ _ _ us hl=>by obtain⟨u0,u1,u2,rfl⟩:=ϵP hl;rfl),F19.kp,mg_of X G a19⟩
 have ϑ6:Cal l.prog w K mg base "way_apart_by_end" ["double","ahead"] 3 (ϛg K):=⟨_,_,ϰP (P:=l.prog) (w:=w) (base:=base) B XB ϑE ϑs ϖ9 F20,F20.binds (ps:=["double","ahead"]) (fun _ _ _ _ _ _ us hl=>by obtain⟨u0,u1,rfl⟩:=ϰL hl;rfl),F20.kp,mg_of X G a20⟩
 have ϰR:Cal l.prog w K mg base "way_apart" ["double"] 4 (spWy K):=⟨_,_,ϲt (P:=l.prog) (w:=w) (base:=base) B XB ϑM ϕp ϑL ϑQ ϑ6 F21,F21.binds (ps:=["double"]) (fun _ _ _ _ _ _ us hl=>by obtain⟨u0,rfl⟩:=ϰa hl;rfl),F21.kp,mg_of X G a21⟩
 have ϕO:Cal l.prog w K mg base "single_way" ["double","way","which"] 1 (spSg K):=⟨_,_,ϵz (P:=l.prog) (w:=w) (base:=base) B XB  F22,F22.binds (ps:=["double","way","which"]) (fun _ _ _ _ _ _ us hl=>by obtain⟨u0,u1,u2,rfl⟩:=ϵP hl;rfl),F22.kp,mg_of X G a22⟩
 have ϕz:Cal1 l.prog w K mg base "two_ways" ["scribe"] 5 (spTW K ϖg):=⟨_,_,ϲ6 (P:=l.prog) (w:=w) (base:=base) B XB ϑR ϰn ϰR ϕO F23,F23.binds (ps:=["scribe"]) (fun _ _ _ _ _ _ us hl=>by obtain⟨u0,rfl⟩:=ϰa hl;rfl),F23.kp,mg_of X G a23⟩
 have ϑ_:Cal l.prog w K mg base "each_once" ["parts"] 1 (ϡl K):=⟨_,_,ϲi (P:=l.prog) (w:=w) (base:=base) B XB  F24,F24.binds (ps:=["parts"]) (fun _ _ _ _ _ _ us hl=>by obtain⟨u0,rfl⟩:=ϰa hl;rfl),F24.kp,mg_of X G a24⟩
 have ϰU:Cal l.prog w K mg base "turned" ["word"] 1 (ϟm):=⟨_,_,ϡY (P:=l.prog) (w:=w) (base:=base) B XB  F25,F25.binds (ps:=["word"]) (fun _ _ _ _ _ _ us hl=>by obtain⟨u0,rfl⟩:=ϰa hl;rfl),F25.kp,mg_of X G a25⟩
 have ϰ6:Cal l.prog w K mg base "mirrored" ["scribe"] 2 (ϛW K):=⟨_,_,ϲJ (P:=l.prog) (w:=w) (base:=base) B XB ϰU F26,F26.binds (ps:=["scribe"]) (fun _ _ _ _ _ _ us hl=>by obtain⟨u0,rfl⟩:=ϰa hl;rfl),F26.kp,mg_of X G a26⟩
 have ϰH:Cal1 l.prog w K mg base "either_of" ["one","other"] 2 (ϱx K ϖc ϖg):=⟨_,_,ϲq (P:=l.prog) (w:=w) (base:=base) B XB ϖW F27,F27.binds (ps:=["one","other"]) (fun _ _ _ _ _ _ us hl=>by obtain⟨u0,u1,rfl⟩:=ϰL hl;rfl),F27.kp,mg_of X G a27⟩
 have ϕP:Cal l.prog w K mg base "kept_marks" ["marks","others","count"] 2 (ϵv K):=⟨_,_,ϵB (P:=l.prog) (w:=w) (base:=base) B XB ϑ_ F28,F28.binds (ps:=["marks","others","count"]) (fun _ _ _ _ _ _ us hl=>by obtain⟨u0,u1,u2,rfl⟩:=ϵP hl;rfl),F28.kp,mg_of X G a28⟩
 have ϕI:Cal l.prog w K mg base "moves_by_sign" ["steps"] 2 (ϲZ K):=⟨_,_,ϱo (P:=l.prog) (w:=w) (base:=base) B XB ϑ_ F29,F29.binds (ps:=["steps"]) (fun _ _ _ _ _ _ us hl=>by obtain⟨u0,rfl⟩:=ϰa hl;rfl),F29.kp,mg_of X G a29⟩
 have ϕ7:Cal l.prog w K mg base "kept_steps" ["steps","others","count"] 3 (ϵD K):=⟨_,_,ϵU (P:=l.prog) (w:=w) (base:=base) B XB ϕI F30,F30.binds (ps:=["steps","others","count"]) (fun _ _ _ _ _ _ us hl=>by obtain⟨u0,u1,u2,rfl⟩:=ϵP hl;rfl),F30.kp,mg_of X G a30⟩
 have ϱC:Cal1 l.prog w K mg base "kept_to" ["scribe","other"] 4 (ϟ4 K ϖc ϖg):=⟨_,_,ϡA (P:=l.prog) (w:=w) (base:=base) B XB ϖW ϑT ϕP ϕ7 F31,F31.binds (ps:=["scribe","other"]) (fun _ _ _ _ _ _ us hl=>by obtain⟨u0,u1,rfl⟩:=ϰL hl;rfl),F31.kp,mg_of X G a31⟩
 have ϖL:Cal l.prog w K mg base "_law_cell_at" ["_law_script","_law_k"] 1 (ϵk K):=⟨_,_,ϵb (P:=l.prog) (w:=w) (base:=base) B XB  F32,F32.binds (ps:=["_law_script","_law_k"]) (fun _ _ _ _ _ _ us hl=>by obtain⟨u0,u1,rfl⟩:=ϰL hl;rfl),F32.kp,mg_of X G a32⟩
 have ϖH:Cal l.prog w K mg base "_law_mixed" ["_law_cell","_law_k"] 1 (ϱg):=⟨_,_,ϲx (P:=l.prog) (w:=w) (base:=base) B XB  F33,F33.binds (ps:=["_law_cell","_law_k"]) (fun _ _ _ _ _ _ us hl=>by obtain⟨u0,u1,rfl⟩:=ϰL hl;rfl),F33.kp,mg_of X G a33⟩
 have ϑJ:Cal l.prog w K mg base "_law_word" ["_law_rest_here"] 1 (ϡt):=⟨_,_,ϲX (P:=l.prog) (w:=w) (base:=base) B XB  F34,F34.binds (ps:=["_law_rest_here"]) (fun _ _ _ _ _ _ us hl=>by obtain⟨u0,rfl⟩:=ϰa hl;rfl),F34.kp,mg_of X G a34⟩
 have ϕg:Cal l.prog w K mg base "_law_signs" ["_law_number"] 1 (ϱw):=⟨_,_,ϲl (P:=l.prog) (w:=w) (base:=base) B XB  F35,F35.binds (ps:=["_law_number"]) (fun _ _ _ _ _ _ us hl=>by obtain⟨u0,rfl⟩:=ϰa hl;rfl),F35.kp,mg_of X G a35⟩
 have ϑV:Cal l.prog w K mg base "_law_rest" ["_law_script","_law_k","_law_salt"] 2 (ϲ_ K):=⟨_,_,ϲP (P:=l.prog) (w:=w) (base:=base) B XB ϖL ϖH F36,F36.binds (ps:=["_law_script","_law_k","_law_salt"]) (fun _ _ _ _ _ _ us hl=>by obtain⟨u0,u1,u2,rfl⟩:=ϵP hl;rfl),F36.kp,mg_of X G a36⟩
 have ϕa:Cal l.prog w K mg base "_law_plain" ["_law_script","_law_salt","_law_most"] 3 (ϱs K):=⟨_,_,ϲp (P:=l.prog) (w:=w) (base:=base) B XB ϕg ϑV ϑJ F37,F37.binds (ps:=["_law_script","_law_salt","_law_most"]) (fun _ _ _ _ _ _ us hl=>by obtain⟨u0,u1,u2,rfl⟩:=ϵP hl;rfl),F37.kp,mg_of X G a37⟩
 have ϕ4:Cal l.prog w K mg base "_law_choices" ["_law_script","_law_salt","_law_most"] 3 (ϲ2 K):=⟨_,_,ϱ_ (P:=l.prog) (w:=w) (base:=base) B XB ϕg ϑV ϑJ F38,F38.binds (ps:=["_law_script","_law_salt","_law_most"]) (fun _ _ _ _ _ _ us hl=>by obtain⟨u0,u1,u2,rfl⟩:=ϵP hl;rfl),F38.kp,mg_of X G a38⟩
 have ϕ1:Cal l.prog w K mg base "_law_twofold" ["_law_script","_law_salt"] 4 (ϱQ K):=⟨_,_,ϵa (P:=l.prog) (w:=w) (base:=base) B XB ϖH ϕa ϖL F39,F39.binds (ps:=["_law_script","_law_salt"]) (fun _ _ _ _ _ _ us hl=>by obtain⟨u0,u1,rfl⟩:=ϰL hl;rfl),F39.kp,mg_of X G a39⟩
 have ϰb:Cal l.prog w K mg base "_law_spoilt" ["_law_script","_law_scribe","_law_salt"] 2 (ϵs K):=⟨_,_,ϵM (P:=l.prog) (w:=w) (base:=base) B XB ϖH ϖL F40,F40.binds (ps:=["_law_script","_law_scribe","_law_salt"]) (fun _ _ _ _ _ _ us hl=>by obtain⟨u0,u1,u2,rfl⟩:=ϵP hl;rfl),F40.kp,mg_of X G a40⟩
 have ϰM:Cal l.prog w K mg base "_law_drawn" ["_law_script"] 5 (ϲ0 K):=⟨_,_,ϵ1 (P:=l.prog) (w:=w) (base:=base) B XB ϖH ϕ1 ϖL ϕ4 ϰb F41,F41.binds (ps:=["_law_script"]) (fun _ _ _ _ _ _ us hl=>by obtain⟨u0,rfl⟩:=ϰa hl;rfl),F41.kp,mg_of X G a41⟩
 have ϰi:Cal l.prog w K mg base "_law_filter" ["_law_script","_law_scribe"] 4 (ϵI K):=⟨_,_,ϵt (P:=l.prog) (w:=w) (base:=base) B XB ϕa F42,F42.binds (ps:=["_law_script","_law_scribe"]) (fun _ _ _ _ _ _ us hl=>by obtain⟨u0,u1,rfl⟩:=ϰL hl;rfl),F42.kp,mg_of X G a42⟩
 exact ok_law (P:=l.prog) (w:=w) (base:=base) B XB ϰM ϕz ϰ6 ϱC ϰi ϰH F43
theorem walk {l:PySem.W.OpenLaw}{q:Program}{loose:List Str}{XP:(Str→Option Value)→Heap→Prop}{YP:World→Heap→Prop}{d:DefRec}{K:Params→Frag} (hn:l.most=some 63) (hdf:d.params.defaults=[])
  (hY:∀(w:World) (h:Heap),YP w h→(K w.params).In h)
  (F:∀(w:World) (mg:Str→Option Value) (fa:Addr) (h:Heap),(K w.params).In h→h.Ns mainGlobals mg→mg d.name=some (.ref fa) →
   ∃fd:FuncData,(∀ (s:Shared) (u:Value),BindsTo s fd ⟨[u],[]⟩ [("_law_script",u)])∧∀base:Heap,(K w.params).In base→base.Ns mainGlobals mg→FnOk l.prog w (K w.params) mg base CX0 6 fa fd ["_law_script"] (ϝl (K w.params))) :
  PySem.W.WalkO q loose XP YP l.row.toRowW d [] (fun f vs=>PySem.call f vs):=
 L2.walk_of (n:=63) (k:=6) (x:="_law_script") (CX:=fun _=>CX0) (sp:=fun w=>ϝl (K w.params)) hn (by decide) hdf ⟨rfl,by decide,by decide⟩ hY F (fun _ _ a ns hl _ hS=>⟨a,ns,rfl,hS,hl,fun _=>rfl⟩) fun _ _ _ _ _ z=>z
end My
open PySem PySem.W PyProof.Rows
set_option maxRecDepth 100000 in
set_option maxHeartbeats 0 in
theorem PySem.Challenge.cw_earlyscribe_k87_whole_two_ways_from_the_holds : PySem.Challenge.rw_earlyscribe_k87_whole_two_ways_from_the.Holds := by
 w_on;o_law
 refine holds_open (q:=My.q) (loose:=[]) (XP:=XL My.q []) (YP:=InK My.K) (N:=4470) My.hl (InK.of fun _=>rfl) InK.keeps
  (fun s z=>xl_of s (Bool.and_eq_true_iff.mp z).1) XL.keeps (by rfl) (by rfl) (by rfl)
  (fun s z=>recFacts_of (Bool.and_eq_true_iff.mp z).2) rfl (by assumption) (by decide +kernel)
  ⟨rfl,rfl,rfl,rfl,rfl,by decide +kernel⟩ ?hw ?hc
 (case hw=>w_witness2)
 k_fill
 refine My.walk (l:=PySem.Challenge.rw_earlyscribe_k87_whole_two_ways_from_the) rfl rfl (fun w h Y=>Y) ?F
 case F=>
  intro w mg fa h KX G hmg
  refine' My.all_mk KX G hmg ?a0 ?l0 ?c0 ?k0 ?a1 ?l1 ?c1 ?k1 ?a2 ?l2 ?c2 ?k2 ?a3 ?l3 ?c3 ?k3 ?a4 ?l4 ?c4 ?k4 ?a5 ?l5 ?c5 ?k5 ?a6 ?l6 ?c6 ?k6 ?a7 ?l7 ?c7 ?k7 ?a8 ?l8 ?c8 ?k8 ?a9 ?l9 ?c9 ?k9 ?a10 ?l10 ?c10 ?k10 ?a11 ?l11 ?c11 ?k11 ?a12 ?l12 ?c12 ?k12 ?a13 ?l13 ?c13 ?k13 ?a14 ?l14 ?c14 ?k14 ?a15 ?l15 ?c15 ?k15 ?a16 ?l16 ?c16 ?k16 ?a17 ?l17 ?c17 ?k17 ?a18 ?l18 ?c18 ?k18 ?a19 ?l19 ?c19 ?k19 ?a20 ?l20 ?c20 ?k20 ?a21 ?l21 ?c21 ?k21 ?a22 ?l22 ?c22 ?k22 ?a23 ?l23 ?c23 ?k23 ?a24 ?l24 ?c24 ?k24 ?a25 ?l25 ?c25 ?k25 ?a26 ?l26 ?c26 ?k26 ?a27 ?l27 ?c27 ?k27 ?a28 ?l28 ?c28 ?k28 ?a29 ?l29 ?c29 ?k29 ?a30 ?l30 ?c30 ?k30 ?a31 ?l31 ?c31 ?k31 ?a32 ?l32 ?c32 ?k32 ?a33 ?l33 ?c33 ?k33 ?a34 ?l34 ?c34 ?k34 ?a35 ?l35 ?c35 ?k35 ?a36 ?l36 ?c36 ?k36 ?a37 ?l37 ?c37 ?k37 ?a38 ?l38 ?c38 ?k38 ?a39 ?l39 ?c39 ?k39 ?a40 ?l40 ?c40 ?k40 ?a41 ?l41 ?c41 ?k41 ?a42 ?l42 ?c42 ?k42 ?a43 ?l43 ?c43 ?k43 ?z0 ?z1 ?z2 ?z3 ?z4 ?z5 ?z6 ?z7 ?gc0 ?gc1 ?gc2 ?gc3 ?gc4 ?gc5 ?gc6 ?gc7 ?gc8 ?gc9 ?gc10 ?xq0 ?xq1 ?xq2 ?xq3 ?xq4 ?xq5 ?xq6 ?xq7 ?xq8 ?xq9 ?xq10 ?xq11 ?xq12 ?xq13 ?xq14 ?xq15 ?xq16 ?xq17 ?xq18 ?xq19
  (case a0=>k_is);(case l0=>k_is);(case c0=>k_is);(case k0=>k_is)
  (case a1=>k_is);(case l1=>k_is);(case c1=>k_is);(case k1=>k_is)
  (case a2=>k_is);(case l2=>k_is);(case c2=>k_is);(case k2=>k_is)
  (case a3=>k_is);(case l3=>k_is);(case c3=>k_is);(case k3=>k_is)
  (case a4=>k_is);(case l4=>k_is);(case c4=>k_is);(case k4=>k_is)
  (case a5=>k_is);(case l5=>k_is);(case c5=>k_is);(case k5=>k_is)
  (case a6=>k_is);(case l6=>k_is);(case c6=>k_is);(case k6=>k_is)
  (case a7=>k_is);(case l7=>k_is);(case c7=>k_is);(case k7=>k_is)
  (case a8=>k_is);(case l8=>k_is);(case c8=>k_is);(case k8=>k_is)
  (case a9=>k_is);(case l9=>k_is);(case c9=>k_is);(case k9=>k_is)
  (case a10=>k_is);(case l10=>k_is);(case c10=>k_is);(case k10=>k_is)
  (case a11=>k_is);(case l11=>k_is);(case c11=>k_is);(case k11=>k_is)
  (case a12=>k_is);(case l12=>k_is);(case c12=>k_is);(case k12=>k_is)
  (case a13=>k_is);(case l13=>k_is);(case c13=>k_is);(case k13=>k_is)
  (case a14=>k_is);(case l14=>k_is);(case c14=>k_is);(case k14=>k_is)
  (case a15=>k_is);(case l15=>k_is);(case c15=>k_is);(case k15=>k_is)
  (case a16=>k_is);(case l16=>k_is);(case c16=>k_is);(case k16=>k_is)
  (case a17=>k_is);(case l17=>k_is);(case c17=>k_is);(case k17=>k_is)
  (case a18=>k_is);(case l18=>k_is);(case c18=>k_is);(case k18=>k_is)
  (case a19=>k_is);(case l19=>k_is);(case c19=>k_is);(case k19=>k_is)
  (case a20=>k_is);(case l20=>k_is);(case c20=>k_is);(case k20=>k_is)
  (case a21=>k_is);(case l21=>k_is);(case c21=>k_is);(case k21=>k_is)
  (case a22=>k_is);(case l22=>k_is);(case c22=>k_is);(case k22=>k_is)
  (case a23=>k_is);(case l23=>k_is);(case c23=>k_is);(case k23=>k_is)
  (case a24=>k_is);(case l24=>k_is);(case c24=>k_is);(case k24=>k_is)
  (case a25=>k_is);(case l25=>k_is);(case c25=>k_is);(case k25=>k_is)
  (case a26=>k_is);(case l26=>k_is);(case c26=>k_is);(case k26=>k_is)
  (case a27=>k_is);(case l27=>k_is);(case c27=>k_is);(case k27=>k_is)
  (case a28=>k_is);(case l28=>k_is);(case c28=>k_is);(case k28=>k_is)
  (case a29=>k_is);(case l29=>k_is);(case c29=>k_is);(case k29=>k_is)
  (case a30=>k_is);(case l30=>k_is);(case c30=>k_is);(case k30=>k_is)
  (case a31=>k_is);(case l31=>k_is);(case c31=>k_is);(case k31=>k_is)
  (case a32=>k_is);(case l32=>k_is);(case c32=>k_is);(case k32=>k_is)
  (case a33=>k_is);(case l33=>k_is);(case c33=>k_is);(case k33=>k_is)
  (case a34=>k_is);(case l34=>k_is);(case c34=>k_is);(case k34=>k_is)
  (case a35=>k_is);(case l35=>k_is);(case c35=>k_is);(case k35=>k_is)
  (case a36=>k_is);(case l36=>k_is);(case c36=>k_is);(case k36=>k_is)
  (case a37=>k_is);(case l37=>k_is);(case c37=>k_is);(case k37=>k_is)
  (case a38=>k_is);(case l38=>k_is);(case c38=>k_is);(case k38=>k_is)
  (case a39=>k_is);(case l39=>k_is);(case c39=>k_is);(case k39=>k_is)
  (case a40=>k_is);(case l40=>k_is);(case c40=>k_is);(case k40=>k_is)
  (case a41=>k_is);(case l41=>k_is);(case c41=>k_is);(case k41=>k_is)
  (case a42=>k_is);(case l42=>k_is);(case c42=>k_is);(case k42=>k_is)
  (case a43=>k_is);(case l43=>k_is);(case c43=>k_is);(case k43=>k_is)
  (case z0=>k_is)
  (case z1=>k_is)
  (case z2=>k_is)
  (case z3=>k_is)
  (case z4=>k_is)
  (case z5=>k_is)
  (case z6=>k_is)
  (case z7=>k_is)
  (case gc0=>k_is)
  (case gc1=>k_is)
  (case gc2=>k_is)
  (case gc3=>k_is)
  (case gc4=>k_is)
  (case gc5=>k_is)
  (case gc6=>k_is)
  (case gc7=>k_is)
  (case gc8=>k_is)
  (case gc9=>k_is)
  (case gc10=>k_is)
  (case xq0=>first|k_is|rfl|kernel_rfl)
  (case xq1=>first|k_is|rfl|kernel_rfl)
  (case xq2=>first|k_is|rfl|kernel_rfl)
  (case xq3=>first|k_is|rfl|kernel_rfl)
  (case xq4=>first|k_is|rfl|kernel_rfl)
  (case xq5=>first|k_is|rfl|kernel_rfl)
  (case xq6=>first|k_is|rfl|kernel_rfl)
  (case xq7=>first|k_is|rfl|kernel_rfl)
  (case xq8=>first|k_is|rfl|kernel_rfl)
  (case xq9=>first|k_is|rfl|kernel_rfl)
  (case xq10=>first|k_is|rfl|kernel_rfl)
  (case xq11=>first|k_is|rfl|kernel_rfl)
  (case xq12=>first|k_is|rfl|kernel_rfl)
  (case xq13=>first|k_is|rfl|kernel_rfl)
  (case xq14=>first|k_is|rfl|kernel_rfl)
  (case xq15=>first|k_is|rfl|kernel_rfl)
  (case xq16=>first|k_is|rfl|kernel_rfl)
  (case xq17=>first|k_is|rfl|kernel_rfl)
  (case xq18=>first|k_is|rfl|kernel_rfl)
  (case xq19=>first|k_is|rfl|kernel_rfl)
