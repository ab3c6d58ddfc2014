import PyProof.Rows.All
import Wide.All
import OpenK.AllK
import Wide.FinOn
import Lean
import PyProof.EqAt
import PyProof.EqKinds
import PyProof.TupleCall
import PySem.Challenge.RW_earlyscribe_k72_too_many_rooms
set_option maxHeartbeats 4000000
set_option Elab.async false
set_option linter.all false
set_option maxRecDepth 100000
namespace L2
open PySem PySem.Spec PyProof.Rows
abbrev Key:=Sum Int Str
def ϱR:Key→Value→Bool
 |.inl k,v=>Value.isInt k v
 |.inr x,v=>Value.isStrOf x v
def keyH (w:World):Key→Int
 |.inl k=>hashInt k
 |.inr x=>hashStr w x
theorem ϖ0:∀{k:Key}{v:Value},ϱR k v=true→(∃ i t,k=Sum.inl i∧v=Value.int i t)∨(∃ x t,k=Sum.inr x∧v=Value.str x t)
 |.inl i,v,h=>by
  obtain⟨t,e⟩:=Value.isInt_shape (k:=i) (v:=v) h
  exact .inl ⟨i,t,rfl,e⟩
 |.inr x,v,h=>by
  obtain⟨t,e⟩:=Value.isStrOf_shape (x:=x) (v:=v) h
  exact .inr ⟨x,t,rfl,e⟩
theorem ϵe (i:Int) (t:Tok):ϱR (.inl i) (.int i t)=true:=by simp[ϱR,Value.isInt]
theorem ϵt (x:Str) (t:Tok):ϱR (.inr x) (.str x t)=true:=by simp[ϱR,Value.isStrOf]
theorem key_ll (a b:Int):decide ((Sum.inl a:Key)=Sum.inl b)=(a == b):=by
 by_cases e:a=b
 ·subst e;simp
 ·have h:¬ (Sum.inl a:Key)=Sum.inl b:=fun q=>e (Sum.inl.inj q)
  rw[decide_eq_false h]
  exact(beq_eq_false_iff_ne.mpr e).symm
theorem key_rr (a b:Str):decide ((Sum.inr a:Key)=Sum.inr b)=decide (a=b):=by
 by_cases e:a=b
 ·subst e;simp
 ·have h:¬ (Sum.inr a:Key)=Sum.inr b:=fun q=>e (Sum.inr.inj q)
  rw[decide_eq_false h,decide_eq_false e]
theorem key_lr (a:Int) (b:Str):decide ((Sum.inl a:Key)=Sum.inr b)=false:=decide_eq_false (fun q=>nomatch q)
theorem key_rl (a:Str) (b:Int):decide ((Sum.inr a:Key)=Sum.inl b)=false:=decide_eq_false (fun q=>nomatch q)
def ϖV (prog:Program) (w:World):PySem.KeyKind prog w Key where
 is:=ϱR
 hash:=keyH w
 inj:=fun v a b ha hb=>by
  rcases ϖ0 ha with⟨i,t,rfl,rfl⟩|⟨x,t,rfl,rfl⟩
  ·rcases ϖ0 hb with⟨j,u,rfl,e⟩|⟨y,u,rfl,e⟩
   ·injection e with e1 _;rw[e1]
   ·exact nomatch e
  ·rcases ϖ0 hb with⟨j,u,rfl,e⟩|⟨y,u,rfl,e⟩
   ·exact nomatch e
   ·injection e with e1 _;rw[e1]
 byValue:=fun k v h=>by
  rcases ϖ0 h with⟨i,t,rfl,rfl⟩|⟨x,t,rfl,rfl⟩<;>rfl
 pyHash:=fun hv h=>by
  rcases ϖ0 hv with⟨i,t,rfl,rfl⟩|⟨x,t,rfl,rfl⟩
  ·exact wpAny_pyHash_int h
  ·exact wpAny_pyHash_str h
 eqBool:=fun hu hv h=>by
  rcases ϖ0 hu with⟨i,t,rfl,rfl⟩|⟨x,t,rfl,rfl⟩
  ·rcases ϖ0 hv with⟨j,u,rfl,rfl⟩|⟨y,u,rfl,rfl⟩
   ·rw[key_ll] at h;exact wpAny_eqBool_int h
   ·rw[key_lr] at h;exact SeqAt.EqAt.int_str i t y u _ _ _ _ h
  ·rcases ϖ0 hv with⟨j,u,rfl,rfl⟩|⟨y,u,rfl,rfl⟩
   ·rw[key_rl] at h;exact SeqAt.EqAt.str_int x t j u _ _ _ _ h
   ·rw[key_rr] at h;exact wpAny_eqBool_str h
 «strs»:=fun k x t v h=>by
  rcases ϖ0 h with⟨i,u,rfl,e⟩|⟨y,u,rfl,e⟩
  ·exact nomatch e
  ·injection e with e1 _
   subst e1
   cases v<;>rfl
theorem ϱh (prog:Program) (w:World) (i:Int) (t:Tok):(ϖV prog w).is (.inl i) (.int i t)=true:=ϵe i t
theorem ϱg (prog:Program) (w:World) (x:Str) (t:Tok):(ϖV prog w).is (.inr x) (.str x t)=true:=ϵt x t
end L2
namespace L2
open PySem PySem.Spec PyProof.Rows
inductive V where
 |non|bl (b:Bool)|int (i:Int)|str (x:Str)|byt (b:Array UInt8)|flt (b:UInt64)|ref (a:Addr)|ty (n:String)
 deriving DecidableEq
def RelV:V→Value→Prop
 |.non,u=>u=Value.none
 |.bl b,u=>u=Value.bool b
 |.int i,u=>∃t,u=Value.int i t
 |.str x,u=>∃t,u=Value.str x t
 |.byt b,u=>∃t,u=Value.bytes b t
 |.flt b,u=>∃t,u=Value.float b t
 |.ref a,u=>u=Value.ref a
 |.ty n,u=>u=Value.type n
abbrev Vals:List V→List Value→Prop:=Paired RelV
theorem Vals.length {xs:List V}{us:List Value} (r:Vals xs us):xs.length=us.length:=Paired.length r
theorem Vals.get:∀{xs:List V}{us:List Value}{i:Nat}{x:V},Vals xs us→xs[i]?=some x→∃u,us[i]?=some u∧RelV x u
 |_,_,_,_,.nil,e=>by simp at e
 |_,_,0,_,.cons r _,e=>by simp at e;subst e;exact⟨_,rfl,r⟩
 |_,_,i+1,x,.cons _ t,e=>by
  obtain⟨u,h1,h2⟩:=Vals.get (i:=i) (x:=x) t (by simpa using e)
  exact⟨u,by simpa using h1,h2⟩
theorem Vals.append:∀{xs ys:List V}{us ws:List Value},Vals xs us→Vals ys ws→Vals (xs++ys) (us++ws)
 |_,_,_,_,.nil,s=>s
 |_,_,_,_,.cons r t,s=>.cons r (Vals.append t s)
def RelO:Option V→Option Value→Prop
 |some v,some u=>RelV v u
 |none,none=>True
 |_,_=>False
def KV {κ:Type}:List (κ×V)→List (κ×Value)→Prop:=Paired fun (p:κ×V) (q:κ×Value)=>p.1=q.1∧RelV p.2 q.2
def kV:Key→V
 |.inl i=>.int i
 |.inr x=>.str x
inductive HO where
 |lst (xs:List V)
 |tup (xs:List V)
 |dK (kvs:List (Key×V))|dT (kvs:List (List Key×V))
 |set (S:Int→Bool) (n:Nat)
 |ins (C dx:Addr) (fs:List (Str×V))
 |own (x:Addr)
 |xd (fs:List (Str×V))
 |met (f x:Addr)
 |rng (lo hi:Int)
 |frz (o:Obj) (u:HO)
 |tbl (ps:Array Value)
 |ext (φ:Heap→Prop)
abbrev Hp:=Addr→Option HO
def upd (H:Hp) (a:Addr) (o:HO):Hp:=fun b=>if b=a then some o else H b
theorem ϖd {H:Hp}{a:Addr}{o:HO}:upd H a o a=some o:=by unfold upd;rw[if_pos rfl]
theorem ϖs {H:Hp}{a b:Addr}{o:HO} (h:b≠a):upd H a o b=H b:=by unfold upd;rw[if_neg h]
theorem ne_of {H:Hp}{a b:Addr}{o u:HO} (h:H a=some o) (h':H b=some u) (d:o≠u):a≠b:=by
 intro e;subst e;rw[h] at h';exact d (Option.some.inj h')
theorem ϖw {H:Hp}{a b:Addr}{o:HO} (h:H a=some o) (h':H b=none):a≠b:=by
 intro e;subst e;rw[h] at h';cases h'
section
variable (P:Program) (w:World)
def ObjOk (H:Hp) (h:Heap) (a:Addr):HO→Prop
 |.lst xs=>xs.length≤sizeLine∧∃(its:List Value) (n:Nat),Vals xs its∧h.get? a=some { cls:=.type "list",data:=.seq its.toArray n }
 |.tup xs=>xs.length≤sizeLine∧∃its:List Value,Vals xs its∧IsTup h a its.toArray
 |.dK kvs=>kvs.length≤sizeLine∧(a == sysModules)=false∧∃vs,KV kvs vs∧h.DictOf (ϖV P w) a vs
 |.dT kvs=>kvs.length≤sizeLine∧(a == sysModules)=false∧∃xs:List (List Key×Addr×Value),
   Paired (fun (p:List Key×V) (q:List Key×Addr×Value)=>p.1=q.1∧H q.2.1=some (.tup (p.1.map kV))∧RelV p.2 q.2.2) kvs xs ∧
   ∃o es ep,h.get? a=some o∧o.ExactDict∧o.data=.dict es ep∧es.toList=xs.map (entryOfKey (tupleKind (ϖV P w)))∧(xs.map (·.1)).Nodup
 |.set S n=>h.SetOf (intKind P w) a S n
 |.ins C dx fs=>H dx=some (.own a)∧fs.length≤1000∧dx≠a∧h.get? a=some (PySem.W.instObj C dx) ∧
   ∃mA,h.Ns1 dx mA∧(∀ f,RelO (fs.lookup f) (mA f))∧PySem.Within mA (fs.map (·.1))
 |.own _=>∃o,h.get? a=some o
 |.xd fs=>∃mA,h.Ns1 a mA∧∀f,RelO (fs.lookup f) (mA f)
 |.rng lo hi=>∃t u v,h.get? a=some { cls:=.type "range",data:=.fields #[.int lo t,.int hi u,.int 1 v] }
 |.frz o u=>h.get? a=some o∧ObjOk H h a u
 |.tbl ps=>h.get? a=some { cls:=.none,data:=.fields ps }
 |.met f x=>h.get? a=some (PySem.W.methodObj (.ref f) (.ref x))
 |.ext φ=>φ h∧(∃ o,h.get? a=some o)∧∀h1 h2:Heap,φ h1→(∀ o,h1.get? a=some o→h2.get? a=some o)→φ h2
def HOk (H:Hp) (h:Heap):Prop:=∀a o,H a=some o→ObjOk P w H h a o
end
section
variable {P:Program}{w:World}{H H':Hp}{h h':Heap}{a:Addr}{o:HO}
theorem ObjOk.lt (x:ObjOk P w H h a o):a < h.objs.size:=by
 cases o with
 |lst xs=>obtain⟨_,_,_,_,e⟩:=x;exact Heap.lt_size e
 |tup xs=>obtain⟨_,_,_,p⟩:=x;exact p.lt
 |dK kvs=>obtain⟨_,_,_,_,o,_,_,e,_⟩:=x;exact Heap.lt_size e
 |dT kvs=>obtain⟨_,_,_,_,o,_,_,e,_⟩:=x;exact Heap.lt_size e
 |set S n=>obtain⟨o,_,_,_,e,_⟩:=x;exact Heap.lt_size e
 |ins C dx fs=>obtain⟨_,_,_,e,_⟩:=x;exact Heap.lt_size e
 |own y=>obtain⟨_,e⟩:=x;exact Heap.lt_size e
 |xd fs=>obtain⟨_,⟨_,_,_,e,_⟩,_⟩:=x;exact Heap.lt_size e
 |rng lo hi=>obtain⟨_,_,_,e⟩:=x;exact Heap.lt_size e
 |frz ob u=>obtain⟨e,_⟩:=x;exact Heap.lt_size e
 |tbl ps=>exact Heap.lt_size (show h.get? a=some _ from x)
 |met f y=>exact Heap.lt_size (show h.get? a=some _ from x)
 |ext φ=>obtain⟨_,⟨_,e⟩,_⟩:=x;exact Heap.lt_size e
theorem Paired.mapP {α β:Type}{F G:α→β→Prop}:∀{l₁:List α}{l₂:List β},Paired F l₁ l₂→(∀ a b,F a b→G a b)→Paired G l₁ l₂
 |_,_,.nil,_=>.nil
 |_,_,.cons r t,f=>.cons (f _ _ r) (Paired.mapP t f)
theorem ObjOk.stay (x:ObjOk P w H h a o) (k:∀b u,(b=a∨H b=some (.own a))→h.get? b=some u→h'.get? b=some u)
  (ho:∀b,H b=some (.own a)→H' b=some (.own a)) (ht:∀b xs,H b=some (.tup xs)→H' b=some (.tup xs)):ObjOk P w H' h' a o:=by
 induction o with
 |lst xs=>obtain⟨z,its,n,r,e⟩:=x;exact⟨z,its,n,r,k _ _ (.inl rfl) e⟩
 |tup xs=>obtain⟨z,its,r,ob,e,c⟩:=x;exact⟨z,its,r,ob,k _ _ (.inl rfl) e,c⟩
 |dK kvs=>obtain⟨z,y,vs,r,ob,es,ep,e,c⟩:=x;exact⟨z,y,vs,r,ob,es,ep,k _ _ (.inl rfl) e,c⟩
 |dT kvs=>
  obtain⟨z,y,xs,r,ob,es,ep,e,c⟩:=x
  exact⟨z,y,xs,Paired.mapP r fun p q z=>⟨z.1,ht _ _ z.2.1,z.2.2⟩,ob,es,ep,k _ _ (.inl rfl) e,c⟩
 |set S n=>obtain⟨ob,es,ep,t,e,c⟩:=x;exact⟨ob,es,ep,t,k _ _ (.inl rfl) e,c⟩
 |ins C dx fs=>
  obtain⟨d,z,ne,e,mA,⟨od,es,ep,e2,c⟩,r⟩:=x
  exact⟨ho _ d,z,ne,k _ _ (.inl rfl) e,mA,⟨od,es,ep,k _ _ (.inr d) e2,c⟩,r⟩
 |own y=>obtain⟨ob,e⟩:=x;exact⟨ob,k _ _ (.inl rfl) e⟩
 |xd fs=>obtain⟨mA,⟨od,es,ep,e,c⟩,r⟩:=x;exact⟨mA,⟨od,es,ep,k _ _ (.inl rfl) e,c⟩,r⟩
 |rng lo hi=>obtain⟨t,u,v,e⟩:=x;exact⟨t,u,v,k _ _ (.inl rfl) e⟩
 |frz ob u ih=>obtain⟨e,q⟩:=x;exact⟨k _ _ (.inl rfl) e,ih q⟩
 |tbl ps=>
  have e:h.get? a=some { cls:=.none,data:=.fields ps }:=x
  show h'.get? a=some { cls:=.none,data:=.fields ps }
  exact k a _ (.inl rfl) e
 |met f y=>
  have e:h.get? a=some (PySem.W.methodObj (.ref f) (.ref y)):=x
  show h'.get? a=some (PySem.W.methodObj (.ref f) (.ref y))
  exact k a _ (.inl rfl) e
 |ext φ=>obtain⟨p,⟨o,e⟩,st⟩:=x;exact⟨st _ _ p fun o q=>k _ _ (.inl rfl) q,⟨o,k _ _ (.inl rfl) e⟩,st⟩
theorem HOk.lt (x:HOk P w H h) (e:H a=some o):a < h.objs.size:=(x a o e).lt
theorem HOk.fresh (x:HOk P w H h) (e:h.objs.size≤a):H a=none:=by
 cases q:H a with
 |none=>rfl
 |some u=>exact absurd (Nat.lt_of_lt_of_le (x.lt q) e) (Nat.lt_irrefl _)
theorem HOk.kept (x:HOk P w H h) (k:∀b u,h.get? b=some u→h'.get? b=some u):HOk P w H h':=fun a o e=>
 (x a o e).stay (fun b u _ q=>k b u q) (fun _ q=>q) fun _ _ q=>q
theorem HOk.laid (x:HOk P w H h) (k:∀b u,h.get? b=some u→h'.get? b=some u) (hp:h.objs.size≤a) (new:ObjOk P w (upd H a o) h' a o):HOk P w (upd H a o) h':=fun b u e=>by
 have hn:=x.fresh hp
 by_cases hb:b=a
 ·subst hb;rw[ϖd] at e;cases e;exact new
 ·rw[ϖs hb] at e
  exact(x b u e).stay (fun c v _ q=>k c v q) (fun c q=>by rw[ϖs (ϖw q hn)];exact q) fun c xs q=>by rw[ϖs (ϖw q hn)];exact q
end
def Rd (H:Hp) (a:Addr) (u:HO):Prop:=H a=some u∨∃o,H a=some (.frz o u)
theorem Rd.ok {P:Program}{w:World}{H:Hp}{h:Heap}{a:Addr}{u:HO} (r:Rd H a u) (x:HOk P w H h):ObjOk P w H h a u:=by
 rcases r with r|⟨o,r⟩
 ·exact x a u r
 ·obtain⟨_,q⟩:=x a _ r
  exact q
def Mut:Option HO→Prop
 |some (.lst _)=>True
 |some (.dK _)=>True
 |some (.dT _)=>True
 |some (.set _ _)=>True
 |some (.ins _ _ _)=>True
 |some (.ext _)=>True
 |_=>False
section
variable {P:Program}{w:World}{H:Hp}{h h':Heap}{x e:Addr}{o':HO}
theorem HOk.write (ok:HOk P w H h) (mu:Mut (H x)) (he:e=x∨H e=some (.own x)) (k:∀b u,b≠e→h.get? b=some u→h'.get? b=some u) (heo:∃u,h'.get? e=some u)
  (new:ObjOk P w (upd H x o') h' x o'):HOk P w (upd H x o') h':=fun b u q=>by
 have nown:∀c y,H c=some (.own y)→c≠x:=fun c y r z=>by subst z;rw[r] at mu;exact mu
 have ntup:∀c xs,H c=some (.tup xs)→c≠x:=fun c xs r z=>by subst z;rw[r] at mu;exact mu
 by_cases hb:b=x
 ·subst hb;rw[ϖd] at q;cases q;exact new
 ·rw[ϖs hb] at q
  by_cases hbe:b=e
  ·have q':H b=some (.own x):=by
    rcases he with z|z
    ·exact absurd (hbe.trans z) hb
    ·rw[hbe];exact z
   rw[q] at q';cases q'
   obtain⟨v,hv⟩:=heo
   exact⟨v,by rw[hbe];exact hv⟩
  ·refine(ok b u q).stay (fun c v hc r=>k c v ?_ r) (fun c r=>by rw[ϖs (nown c b r)];exact r) fun c xs r=>by rw[ϖs (ntup c xs r)];exact r
   rcases hc with rfl|hc
   ·exact hbe
   ·rintro rfl
    rcases he with z|z
    ·exact nown c b hc z
    ·rw[hc] at z;cases z;exact hb rfl
end
structure Un (fs ex:List Addr) (H H':Hp) (h h':Heap):Prop where
 keep:∀b o,h.get? b=some o→H b=none→b∉fs→b∉ex→h'.get? b=some o
 slot:∀b o,h.get? b=some o→H b=none→b∈fs→b∉ex→∃sl,h'.get? b=some { o with slots:=sl }
 free:∀b o,h.get? b=some o→H b=none→b∉ex→H' b=none
 there:∀b o,h.get? b=some o→b∉ex→∃o',h'.get? b=some o'
 tups:∀b xs,H b=some (.tup xs)→H' b=some (.tup xs)
 frzs:∀b o u,H b=some (.frz o u)→H' b=some (.frz o u)
 tbls:∀b ps,H b=some (.tbl ps)→∃more,H' b=some (.tbl (ps++more))
section
variable {fs fs' ex ex':List Addr}{H H1 H2:Hp}{h h1 h2 h':Heap}{a x e:Addr}{o:HO}
theorem Un.any (u:Un fs ex H H1 h h1) {b:Addr}{ob:Obj} (q:h.get? b=some ob) (n:H b=none) (hx:b∉ex):∃sl,h1.get? b=some { ob with slots:=sl }:=by
 by_cases hb:b∈fs
 ·exact u.slot b ob q n hb hx
 ·exact⟨ob.slots,u.keep b ob q n hb hx⟩
theorem Un.kept (k:∀b u,h.get? b=some u→h'.get? b=some u):Un fs ex H H h h':=
 ⟨fun b ob q _ _ _=>k b ob q,fun b ob q _ _ _=>⟨ob.slots,k b ob q⟩,fun _ _ _ n _=>n,fun b ob q _=>⟨ob,k b ob q⟩,fun _ _ q=>q,fun _ _ _ q=>q,fun _ ps q=>⟨#[],by rw[q];simp⟩⟩
theorem Un.refl:Un fs ex H H h h:=Un.kept fun _ _ q=>q
theorem Un.laid (k:∀b u,h.get? b=some u→h'.get? b=some u) (hp:h.objs.size≤a) (hn:H a=none):Un fs ex H (upd H a o) h h' where
 keep:=fun b u q _ _ _=>k b u q
 slot:=fun b u q _ _ _=>⟨u.slots,k b u q⟩
 free:=fun b u q n _=>by rw[ϖs (Nat.ne_of_lt (Nat.lt_of_lt_of_le (Heap.lt_size q) hp))];exact n
 there:=fun b u q _=>⟨u,k b u q⟩
 tups:=fun b xs q=>by rw[ϖs (ϖw q hn)];exact q
 frzs:=fun b u xs q=>by rw[ϖs (ϖw q hn)];exact q
 tbls:=fun b ps q=>⟨#[],by rw[ϖs (ϖw q hn),q];simp⟩
theorem Un.write (mu:Mut (H x)) (he:e=x∨H e=some (.own x)) (k:∀b u,b≠e→h.get? b=some u→h'.get? b=some u) (heo:∃u,h'.get? e=some u):Un fs ex H (upd H x o) h h':=by
 have hx:∀b,H b=none→b≠x:=fun b n z=>by subst z;rw[n] at mu;exact mu
 have hb:∀b,H b=none→b≠e:=fun b n z=>by
  subst z
  rcases he with r|r
  ·exact hx b n r
  ·rw[n] at r;cases r
 have hm:∀b u,H b=some u→¬ Mut (some u)→b≠x:=fun b u q nm z=>by subst z;rw[q] at mu;exact nm mu
 refine⟨fun b u q n _ _=>k b u (hb b n) q,fun b u q n _ _=>⟨u.slots,k b u (hb b n) q⟩,fun b u q n _=>by rw[ϖs (hx b n)];exact n,fun b u q _=>?_,
  fun b xs q=>by rw[ϖs (hm b _ q fun z=>z)];exact q,fun b u xs q=>by rw[ϖs (hm b _ q fun z=>z)];exact q,fun b ps q=>⟨#[],by rw[ϖs (hm b _ q fun z=>z),q];simp⟩⟩
 by_cases hbe:b=e
 ·subst hbe;exact heo
 ·exact⟨u,k b u hbe q⟩
end
def trk (h:Heap) (H:Hp):List Addr:=(List.range h.objs.size).filter fun a=>(H a).isSome
def hidT (h:Heap) (H:Hp):Heap:=PySem.W.hideAll h (trk h H)
theorem ϵn (h:Heap) (H:Hp):(hidT h H).objs.size=h.objs.size:=PySem.W.hideAll_size _ _
theorem ϵX {h:Heap}{H:Hp}{b:Addr}{o:Obj} (e:h.get? b=some o) (n:H b=none):(hidT h H).get? b=some o:=
 PySem.W.hideAll_get _ e fun hm=>by
  have q:(H b).isSome=true:=(List.mem_filter.mp hm).2
  rw[n] at q;simp at q
theorem ϲH {h:Heap}{H:Hp}{b:Addr}{o:Obj} (e:(hidT h H).get? b=some o):h.get? b=some o∧H b=none:=by
 have e':h.get? b=some o:=PySem.W.of_hideAll (trk h H) e
 refine⟨e',?_⟩
 cases q:H b with
 |none=>rfl
 |some x=>
  have hm:b∈trk h H:=List.mem_filter.mpr ⟨List.mem_range.mpr (Heap.lt_size e'),by simp[q]⟩
  have z:(hidT h H).get? b=none:=PySem.W.hideAll_none (trk h H) hm
  rw[z] at e;cases e
def ϲT (g h:Heap) (L:Addr):List (Addr×Obj):=(List.range h.objs.size).filterMap fun a=>if a=L∨(g.get? a).isSome=true then none else (h.get? a).map fun o=>(a,o)
def rest (g h:Heap) (L d:Addr):List (Addr×Obj):=(ϲT g h L).filter fun p=>decide (p.1≠d)
end L2
namespace L2
open PySem PySem.Spec PyProof.Rows
structure Mod (K:PySem.W.Frag) (mg:Str→Option Value) (base:Heap):Prop where
 kin:K.In base
 glob:base.Ns mainGlobals mg
 blt:∃mb,base.Ns builtinsNs mb∧∀x:Str,x≠"__name__"→mb x=bootBuiltins x
 nolimit:base.NoLimit
structure Cx where
 prog:Program
 w:World
 K:PySem.W.Frag
 mg:Str→Option Value
 base:Heap
 A:Around
 N:List Str
 s₀:Shared
 H₀:Hp
 env:Env
 outer:List Env
 stack:List Env
 ex:List Addr
 fn:Str→Bool
 calm:Bool
 pn:List (Addr×Obj)
 xe:Value→Shared→Prop
def frs (l:List Env):List Addr:=l.filterMap (·.frame)
abbrev Cx.fs (X:Cx):List Addr:=frs X.outer
def Vis (sc:Scope) (x:Str):Prop:=sc.names.lookup x=some .local∨sc.names.lookup x=some .cell∨sc.names.lookup x=some .free
def Loc (sc:Scope) (x:Str):Prop:=sc.names.lookup x=some .local∨sc.names.lookup x=some .cell
def Look (env:Env) (h:Heap) (m:Str→Option Value) (x:Str) (u:Value):Prop:=
 (env.kindOf x=some .local∧m x=some u)∨((env.kindOf x=some .cell∨env.kindOf x=some .free)∧∃c,env.cells.lookup x=some c∧h.IsCell c (some u))
structure Cx.Ok (X:Cx):Prop where
 mod:Mod X.K X.mg X.base
 kind:X.env.scope.kind=.function
 glob:X.env.globals=mainGlobals
 blt:X.env.builtins=builtinsNs
 above:X.s₀.heap.objs.size≤X.env.locals
 inj:∀x y c,X.env.cells.lookup x=some c→X.env.cells.lookup y=some c→x=y
 has:∀x,(X.env.kindOf x=some .cell∨X.env.kindOf x=some .free)→∃c,X.env.cells.lookup x=some c
 cab:∀x c,X.fn x=true→X.env.cells.lookup x=some c→X.s₀.heap.objs.size≤c
 hd:X.calm=true→X.A.handled=none
 frames:X.A.frames=some X.stack
 stk:X.stack=X.outer∨(X.stack=X.env::X.outer∧X.env.frame=some X.env.locals)
 exf:∀b∈X.ex,b≠X.env.locals∧∀x c,X.env.cells.lookup x=some c→c≠b
 bs:∀b o,X.base.get? b=some o→X.s₀.heap.get? b=some o∧X.H₀ b=none
 bsz:X.base.objs.size≤X.s₀.heap.objs.size
 noex:∀b o,X.base.get? b=some o→b∉X.ex
 exfs:∀b∈X.ex,b∉X.fs
 funs:X.s₀.heap.FunFrames X.base X.outer
 frf:∀b∈X.fs,X.H₀ b=none
structure Inv (X:Cx) (pins:List (Addr×Obj)) (σ:List (Option V)) (H:Hp) (s:Shared):Prop where
 ok:X.Ok
 os:s.os=X.s₀.os
 bare:AllBare s.gens
 base:Un X.fs X.ex X.H₀ H X.s₀.heap s.heap
 loc:∃m,s.heap.Ns X.env.locals m∧∀(i:Nat) (x:Str) (v:V),X.N[i]?=some x→σ[i]?=some (some v)→Vis X.env.scope x→∃u,RelV v u∧Look X.env s.heap m x u
 cell:∀x c,X.env.cells.lookup x=some c→∃v,s.heap.IsCell c v
 free:H X.env.locals=none
 freeC:∀x c,X.env.cells.lookup x=some c→H c=none
 pin:∀p∈X.pn++pins,s.heap.get? p.1=some p.2∧H p.1=none∧p.1≠X.env.locals∧p.1∉X.fs∧∀v,p.2.data≠.cell v
 hok:HOk X.prog X.w H s.heap
 len:σ.length=X.N.length
section
variable {X:Cx}{pins:List (Addr×Obj)}{σ:List (Option V)}{H H':Hp}{s:Shared}{h':Heap}
theorem Cx.Ok.nofr (ok:X.Ok) {b:Addr}{o:Obj} (e:X.base.get? b=some o):b∉X.fs:=fun hb=>by
 have:=(ok.funs.mem hb).1
 rw[e] at this;cases this
theorem Inv.bs (I:Inv X pins σ H s):∀b o,X.base.get? b=some o→s.heap.get? b=some o∧H b=none:=fun b o e=>
 ⟨I.base.keep b o (I.ok.bs b o e).1 (I.ok.bs b o e).2 (I.ok.nofr e) (I.ok.noex b o e),I.base.free b o (I.ok.bs b o e).1 (I.ok.bs b o e).2 (I.ok.noex b o e)⟩
theorem Inv.bk (I:Inv X pins σ H s):∀b o,X.base.get? b=some o→s.heap.get? b=some o:=fun b o e=>(I.bs b o e).1
theorem Inv.mod (I:Inv X pins σ H s):Mod X.K X.mg X.base:=I.ok.mod
theorem Inv.kIn (I:Inv X pins σ H s):X.K.In s.heap:=I.ok.mod.kin.keeps I.bk
theorem Inv.lt (I:Inv X pins σ H s):X.env.locals < s.heap.objs.size:=let ⟨_,hn,_⟩:=I.loc;hn.lt
theorem Inv.sz (I:Inv X pins σ H s):X.s₀.heap.objs.size≤s.heap.objs.size:=Nat.le_trans I.ok.above (Nat.le_of_lt I.lt)
theorem Inv.nofs (I:Inv X pins σ H s) {a:Addr} (h:s.heap.objs.size≤a):a∉X.fs:=fun hb=>by
 obtain⟨_,o,ho,_⟩:=I.ok.funs.mem hb
 exact absurd (Nat.lt_of_lt_of_le (Heap.lt_size ho) (Nat.le_trans I.sz h)) (Nat.lt_irrefl _)
theorem Inv.cne (I:Inv X pins σ H s):∀x c,X.env.cells.lookup x=some c→c≠X.env.locals:=fun x c e z=>by
 obtain⟨v,o,ho,hd⟩:=I.cell x c e
 obtain⟨m,⟨o',es,ep,ho',hd',_⟩,_⟩:=I.loc
 rw[z,ho'] at ho;cases ho;rw[hd'] at hd;cases hd
theorem Inv.funs (I:Inv X pins σ H s):s.heap.FunFrames X.base X.outer:=by
 have all:∀(l:List Env),(∀ b∈frs l,b∈X.fs)→X.s₀.heap.FunFrames X.base l→s.heap.FunFrames X.base l:=by
  intro l
  induction l with
  |nil=>intro _ _;trivial
  |cons env r ih=>
   intro hs hl
   obtain⟨hk,⟨L,o,hf,hn,ho,hd⟩,hr⟩:=hl
   have hL:L∈X.fs:=hs L (by unfold frs;rw[List.filterMap_cons,hf];exact List.mem_cons_self)
   obtain⟨sl,e⟩:=I.base.slot L o ho (I.ok.frf L hL) hL fun z=>I.ok.exfs L z hL
   exact⟨hk,⟨L,_,hf,hn,e,hd⟩,ih (fun b hb=>hs b (by unfold frs;rw[List.filterMap_cons,hf];exact List.mem_cons_of_mem _ hb)) hr⟩
 exact all X.outer (fun _ hb=>hb) I.ok.funs
theorem Inv.stack (I:Inv X pins σ H s):s.heap.FunFrames X.base X.stack:=by
 rcases I.ok.stk with e|⟨e,hf⟩
 ·rw[e];exact I.funs
 ·rw[e]
  obtain⟨m,hn,_⟩:=I.loc
  refine .cons (by rw[I.ok.kind];decide) hf hn ?_ I.funs
  exact Heap.get?_none_of_le (Nat.le_trans I.ok.bsz I.ok.above)
theorem Inv.stkSub (I:Inv X pins σ H s):∀b∈frs X.stack,b∈X.env.locals::X.fs:=fun b hb=>by
 rcases I.ok.stk with e|⟨e,hf⟩
 ·rw[e] at hb;exact List.mem_cons_of_mem _ hb
 ·rw[e] at hb
  unfold frs at hb
  rw[List.filterMap_cons,hf] at hb
  exact hb
theorem Inv.stkFree (I:Inv X pins σ H s):∀b∈frs X.stack,H b=none:=fun b hb=>by
 rcases List.mem_cons.mp (I.stkSub b hb) with e|hb
 ·rw[e];exact I.free
 ·obtain⟨_,o,ho,_⟩:=I.ok.funs.mem hb
  exact I.base.free b o ho (I.ok.frf b hb) fun z=>I.ok.exfs b z hb
theorem Inv.step {g':Array GenState}{t':Nat}{d':Drawn}{ch:List Addr} (I:Inv X pins σ H s)
  (hch:∀b∈ch,(b∈X.ex∨X.s₀.heap.objs.size≤b)∧b≠X.env.locals∧(∀ x c,X.env.cells.lookup x=some c→c≠b)∧∀p∈X.pn++pins,p.1≠b)
  (keep:∀b o,b≠X.env.locals→b∉X.fs→b∉ch→s.heap.get? b=some o→H b=none→h'.get? b=some o)
  (slot:∀b o,b≠X.env.locals→b∈X.fs→b∉ch→s.heap.get? b=some o→H b=none→∃sl,h'.get? b=some { o with slots:=sl }) (free:∀b o,b∉ch→s.heap.get? b=some o→H b=none→H' b=none)
  (there:∀b o,b∉ch→s.heap.get? b=some o→∃o',h'.get? b=some o')
  (tups:∀b xs,H b=some (.tup xs)→H' b=some (.tup xs)) (frzs:∀b o u,H b=some (.frz o u)→H' b=some (.frz o u)) (tbls:∀b ps,H b=some (.tbl ps)→∃more,H' b=some (.tbl (ps++more)))
  (ns:∀m,s.heap.Ns X.env.locals m→h'.Ns X.env.locals m) (hok:HOk X.prog X.w H' h') (hg:AllBare g') :
  Inv X pins σ H' { s with heap:=h',gens:=g',drawn:=d',toks:=t' }:=by
 have neL:∀b o,X.s₀.heap.get? b=some o→b≠X.env.locals:=fun b o e=>Nat.ne_of_lt (Nat.lt_of_lt_of_le (Heap.lt_size e) I.ok.above)
 have neC:∀b o,X.s₀.heap.get? b=some o→b∉X.ex→b∉ch:=fun b o e hx hb=>by
  rcases (hch b hb).1 with z|z
  ·exact hx z
  ·exact absurd (Nat.lt_of_lt_of_le (Heap.lt_size e) z) (Nat.lt_irrefl _)
 have cellK:∀x c,X.env.cells.lookup x=some c→∀v,s.heap.IsCell c v→h'.IsCell c v:=fun x c e v ⟨o,ho,hd⟩=>by
  have nch:c∉ch:=fun z=>(hch c z).2.2.1 x c e rfl
  by_cases hc:c∈X.fs
  ·obtain⟨sl,q⟩:=slot c o (I.cne x c e) hc nch ho (I.freeC x c e)
   exact⟨_,q,hd⟩
  ·exact⟨o,keep c o (I.cne x c e) hc nch ho (I.freeC x c e),hd⟩
 refine⟨I.ok,I.os,hg,⟨fun b o e n hb hx=>?_,fun b o e n hb hx=>?_,fun b o e n hx=>?_,fun b o e hx=>?_,fun b xs e=>tups b xs (I.base.tups b xs e),fun b o xs e=>frzs b o xs (I.base.frzs b o xs e),fun b ps e=>?_⟩,?_,fun x c e=>?_,?_,fun x c e=>?_,fun p hp=>?_,hok,I.len⟩
 ·exact keep b o (neL b o e) hb (neC b o e hx) (I.base.keep b o e n hb hx) (I.base.free b o e n hx)
 ·obtain⟨sl,e1⟩:=I.base.slot b o e n hb hx
  obtain⟨sl',e2⟩:=slot b _ (neL b o e) hb (neC b o e hx) e1 (I.base.free b o e n hx)
  exact⟨sl',e2⟩
 ·obtain⟨o',e1⟩:=I.base.there b o e hx
  exact free b o' (neC b o e hx) e1 (I.base.free b o e n hx)
 ·obtain⟨o',e1⟩:=I.base.there b o e hx
  exact there b o' (neC b o e hx) e1
 ·obtain⟨m1,e1⟩:=I.base.tbls b ps e
  obtain⟨m2,e2⟩:=tbls b _ e1
  exact⟨m1++m2,by rw[e2,Array.append_assoc]⟩
 ·obtain⟨m,hn,hl⟩:=I.loc
  refine⟨m,ns m hn,fun i x v e1 e2 e3=>?_⟩
  obtain⟨u,r,l⟩:=hl i x v e1 e2 e3
  refine⟨u,r,?_⟩
  rcases l with l|⟨k,c,e,z⟩
  ·exact .inl l
  ·exact .inr ⟨k,c,e,cellK x c e _ z⟩
 ·obtain⟨v,z⟩:=I.cell x c e
  exact⟨v,cellK x c e v z⟩
 ·obtain⟨m,⟨o,_,_,ho,_⟩,_⟩:=I.loc
  exact free _ o (fun z=>(hch _ z).2.1 rfl) ho I.free
 ·obtain⟨v,o,ho,hd⟩:=I.cell x c e
  exact free c o (fun z=>(hch c z).2.2.1 x c e rfl) ho (I.freeC x c e)
 ·obtain⟨e,n,ne,nf,d⟩:=I.pin p hp
  have nch:p.1∉ch:=fun z=>(hch p.1 z).2.2.2 p hp rfl
  exact⟨keep p.1 p.2 ne nf nch e n,free p.1 p.2 nch e n,ne,nf,d⟩
theorem Inv.un {t':Nat} (I:Inv X pins σ H s) (u:Un X.fs [] H H' s.heap h') (hok:HOk X.prog X.w H' h'):Inv X pins σ H' { s with heap:=h',toks:=t' }:=by
 obtain⟨m,⟨o,es,ep,ho,r⟩,_⟩:=id I.loc
 obtain⟨sl,hL⟩:=u.any ho I.free (by simp)
 exact I.step (g':=s.gens) (d':=s.drawn) (ch:=[]) (fun _ z=>nomatch z) (fun b o _ hb _ e n=>u.keep b o e n hb (by simp)) (fun b o _ hb _ e n=>u.slot b o e n hb (by simp)) (fun b o _ e n=>u.free b o e n (by simp)) (fun b o _ e=>u.there b o e (by simp)) u.tups u.frzs u.tbls (fun m' hm=>by
  obtain⟨o',es',ep',ho',r'⟩:=hm
  rw[ho] at ho';cases ho'
  exact⟨_,es',ep',hL,r'⟩) hok I.bare
theorem Inv.call {g':Array GenState}{t':Nat}{d':Drawn}{ch:List Addr} (I:Inv X pins σ H s) (u:Un (frs X.stack) ch H H' s.heap h') (hok:HOk X.prog X.w H' h') (hg:AllBare g')
  (hch:∀b∈ch,(b∈X.ex∨X.s₀.heap.objs.size≤b)∧b≠X.env.locals∧(∀ x c,X.env.cells.lookup x=some c→c≠b)∧∀p∈X.pn++pins,p.1≠b) :
  Inv X pins σ H' { s with heap:=h',gens:=g',drawn:=d',toks:=t' }:=by
 obtain⟨m,⟨o,es,ep,ho,r⟩,_⟩:=id I.loc
 obtain⟨sl,hL⟩:=u.any ho I.free fun z=>(hch _ z).2.1 rfl
 exact I.step (ch:=ch) hch (fun b o hL hb hc e n=>u.keep b o e n (fun z=>(List.mem_cons.mp (I.stkSub b z)).elim hL hb) hc) (fun b o _ _ hc e n=>u.any e n hc) (fun b o hc e n=>u.free b o e n hc) (fun b o hc e=>u.there b o e hc) u.tups u.frzs u.tbls (fun m' hm=>by
  obtain⟨o',es',ep',ho',r'⟩:=hm
  rw[ho] at ho';cases ho'
  exact⟨_,es',ep',hL,r'⟩) hok hg
theorem Inv.turned {t':Nat}{it:Addr} (I:Inv X pins σ H s) (k:∀b o,b≠it→s.heap.get? b=some o→h'.get? b=some o) (hn:H it=none) (hL:it≠X.env.locals)
  (h1:it∈X.ex∨X.s₀.heap.objs.size≤it) (h2:∀x c,X.env.cells.lookup x=some c→c≠it) (h3:∀p∈X.pn++pins,p.1≠it):Inv X pins σ H { s with heap:=h',toks:=t' }:=by
 have nit:∀b u,H b=some u→b≠it:=fun b u e z=>by rw[z,hn] at e;cases e
 refine I.step (g':=s.gens) (d':=s.drawn) (ch:=[it]) (fun b hb=>?_) (fun b o _ _ hc e _=>k b o (fun z=>hc (by simp[z])) e) (fun b o _ _ hc e _=>⟨o.slots,k b o (fun z=>hc (by simp[z])) e⟩) (fun _ _ _ _ n=>n)
  (fun b o hc e=>⟨o,k b o (fun z=>hc (by simp[z])) e⟩) (fun _ _ e=>e) (fun _ _ _ e=>e) (fun b ps e=>⟨#[],by rw[e];simp⟩) (fun m hm=>?_) (fun b u e=>?_) I.bare
 ·have e:b=it:=by simpa using hb
  subst e
  exact⟨h1,hL,h2,h3⟩
 ·obtain⟨o,es,ep,ho,r⟩:=hm
  exact⟨o,es,ep,k _ o (Ne.symm hL) ho,r⟩
 ·refine(I.hok b u e).stay (fun c v hc q=>k c v ?_ q) (fun _ q=>q) fun _ _ q=>q
  rcases hc with z|z
  ·rw[z];exact nit b u e
  ·exact nit c _ z
theorem Inv.tok (I:Inv X pins σ H s) (t:Nat):Inv X pins σ H { s with toks:=t }:=I.un (h':=s.heap) (t':=t) Un.refl I.hok
theorem Inv.kept {t':Nat} (I:Inv X pins σ H s) (k:∀b u,s.heap.get? b=some u→h'.get? b=some u):Inv X pins σ H { s with heap:=h',toks:=t' }:=I.un (Un.kept k) (I.hok.kept k)
theorem Inv.laid {a:Addr}{o:HO}{t':Nat} (I:Inv X pins σ H s) (k:∀b u,s.heap.get? b=some u→h'.get? b=some u) (hp:s.heap.objs.size≤a) (new:ObjOk X.prog X.w (upd H a o) h' a o) :
  Inv X pins σ (upd H a o) { s with heap:=h',toks:=t' }:=I.un (Un.laid k hp (I.hok.fresh hp)) (I.hok.laid k hp new)
theorem Inv.write {x e:Addr}{o:HO}{t':Nat} (I:Inv X pins σ H s) (mu:Mut (H x)) (he:e=x∨H e=some (.own x)) (k:∀b u,b≠e→s.heap.get? b=some u→h'.get? b=some u) (heo:∃u,h'.get? e=some u)
  (new:ObjOk X.prog X.w (upd H x o) h' x o):Inv X pins σ (upd H x o) { s with heap:=h',toks:=t' }:=I.un (Un.write mu he k heo) (I.hok.write mu he k heo new)
theorem Inv.pins_of {pins':List (Addr×Obj)} (I:Inv X pins σ H s) (h:∀p∈pins',s.heap.get? p.1=some p.2∧H p.1=none∧p.1≠X.env.locals∧p.1∉X.fs∧∀v,p.2.data≠.cell v):Inv X pins' σ H s:=
 ⟨I.ok,I.os,I.bare,I.base,I.loc,I.cell,I.free,I.freeC,fun p hp=>(List.mem_append.mp hp).elim (fun z=>I.pin p (List.mem_append_left _ z)) (h p),I.hok,I.len⟩
theorem ϰC {N:List Str} (hN:N.Nodup) {i j:Nat}{x:Str} (a:N[i]?=some x) (b:N[j]?=some x):i=j:=by
 obtain⟨h1,e1⟩:=List.getElem?_eq_some_iff.mp a
 obtain⟨h2,e2⟩:=List.getElem?_eq_some_iff.mp b
 exact(List.getElem_inj hN).mp (e1.trans e2.symm)
theorem ϰ2 {M:Model}{A:Around}{E:Value→Shared→Prop}{i:Nat}{x:Str}{v:V}{u:Value}{Q:Unit→Shared→Prop} (I:Inv X pins σ H s) (hN:X.N.Nodup) (hi:X.N[i]?=some x) (hx:Loc X.env.scope x) (r:RelV v u)
  (h:∀s',Inv X pins (σ.set i (some v)) H s'→(∃ a,Heap.SameBut a s.heap s'.heap∧(a=X.env.locals∨X.env.cells.lookup x=some a))→Q () s') (hf:X.fn x=true∨X.env.scope.names.lookup x=some .local:=by first|exact .inl rfl|exact .inr rfl|assumption):wpAny M A (storeName X.env x u) Q E s:=by
 obtain⟨m,hn,hl⟩:=id I.loc
 have hcls:(X.env.scope.kind == .class || (X.env.scope.kind == .module && X.env.locals != X.env.globals))=false:=by rw[I.ok.kind];rfl
 have hiσ:i < σ.length:=by rw[I.len];exact(List.getElem?_eq_some_iff.mp hi).1
 have cne:=I.cne
 have tracked:∀{a:Addr}{h':Heap},(∃ o,s.heap.get? a=some o∧H a=none)→Heap.SameBut a s.heap h'→HOk X.prog X.w H h':=fun {a h'} ha hs b ob e=>by
  obtain⟨_,_,hfree⟩:=ha
  refine(I.hok b ob e).stay (fun c w' hc q=>(hs.2 c ?_).trans q) (fun _ q=>q) fun _ _ q=>q
  rintro rfl
  rcases hc with rfl|hc
  ·rw[hfree] at e;cases e
  ·rw[hfree] at hc;cases hc
 rcases hx with hk|hk
 ·refine wpAny_storeName_local hk hn (fun h' hn' hs=>?_) hcls
  obtain⟨oL,_,_,hoL,_⟩:=id hn
  refine h _ ⟨I.ok,I.os,I.bare,⟨fun b o e n hb hx=>?_,fun b o e n hb hx=>?_,I.base.free,fun b o e hx=>?_,I.base.tups,I.base.frzs,I.base.tbls⟩,⟨_,hn',fun j y v' e1 e2 e3=>?_⟩,fun y c e=>?_,I.free,I.freeC,fun p hp=>?_,tracked ⟨oL,hoL,I.free⟩ hs,by simpa using I.len⟩ ⟨_,hs,.inl rfl⟩
  ·exact(hs.2 b (Nat.ne_of_lt (Nat.lt_of_lt_of_le (Heap.lt_size e) I.ok.above))).trans (I.base.keep b o e n hb hx)
  ·obtain⟨sl,e1⟩:=I.base.slot b o e n hb hx
   exact⟨sl,(hs.2 b (Nat.ne_of_lt (Nat.lt_of_lt_of_le (Heap.lt_size e) I.ok.above))).trans e1⟩
  ·obtain⟨o',e1⟩:=I.base.there b o e hx
   exact⟨o',(hs.2 b (Nat.ne_of_lt (Nat.lt_of_lt_of_le (Heap.lt_size e) I.ok.above))).trans e1⟩
  ·by_cases hj:j=i
   ·subst hj
    rw[hi] at e1;cases e1
    rw[List.getElem?_set_self hiσ] at e2
    cases e2
    exact⟨u,r,.inl ⟨hk,by simp⟩⟩
   ·rw[List.getElem?_set_ne (Ne.symm hj)] at e2
    obtain⟨u',r',q⟩:=hl j y v' e1 e2 e3
    refine⟨u',r',?_⟩
    rcases q with⟨k,e⟩|⟨k,c,e,z⟩
    ·refine .inl ⟨k,?_⟩
     have:y≠x:=fun e=>hj (ϰC hN e1 (e▸hi))
     simp[this,e]
    ·exact .inr ⟨k,c,e,z.sameBut hs (cne y c e)⟩
  ·obtain⟨w',z⟩:=I.cell y c e
   exact⟨w',z.sameBut hs (cne y c e)⟩
  ·obtain⟨e,n,ne,nf,d⟩:=I.pin p hp
   exact⟨(hs.2 p.1 ne).trans e,n,ne,nf,d⟩
 ·have hfn:X.fn x=true:=by
   rcases hf with z|z
   ·exact z
   ·rw[z] at hk;cases hk
  obtain⟨c,hc⟩:=I.ok.has x (.inl hk)
  obtain⟨w',z⟩:=I.cell x c hc
  refine wpAny_storeName_cell I.ok.kind hk hc z (fun h' hc' hs=>?_)
  obtain⟨oc,hoc,hocd⟩:=id z
  refine h { s with heap:=h' } ⟨I.ok,I.os,I.bare,⟨fun b o e n hb hx=>?_,fun b o e n hb hx=>?_,I.base.free,fun b o e hx=>?_,I.base.tups,I.base.frzs,I.base.tbls⟩,⟨m,hn.sameBut hs (Ne.symm (cne x c hc)),fun j y v' e1 e2 e3=>?_⟩,fun y c' e=>?_,I.free,I.freeC,fun p hp=>?_,tracked ⟨oc,hoc,I.freeC x c hc⟩ hs,by simpa using I.len⟩ ⟨c,hs,.inr hc⟩
  ·exact(hs.2 b (Nat.ne_of_lt (Nat.lt_of_lt_of_le (Heap.lt_size e) (I.ok.cab x c hfn hc)))).trans (I.base.keep b o e n hb hx)
  ·obtain⟨sl,e1⟩:=I.base.slot b o e n hb hx
   exact⟨sl,(hs.2 b (Nat.ne_of_lt (Nat.lt_of_lt_of_le (Heap.lt_size e) (I.ok.cab x c hfn hc)))).trans e1⟩
  ·obtain⟨o',e1⟩:=I.base.there b o e hx
   exact⟨o',(hs.2 b (Nat.ne_of_lt (Nat.lt_of_lt_of_le (Heap.lt_size e) (I.ok.cab x c hfn hc)))).trans e1⟩
  ·by_cases hj:j=i
   ·subst hj
    rw[hi] at e1;cases e1
    rw[List.getElem?_set_self hiσ] at e2
    cases e2
    exact⟨u,r,.inr ⟨.inl hk,c,hc,hc'⟩⟩
   ·rw[List.getElem?_set_ne (Ne.symm hj)] at e2
    obtain⟨u',r',q⟩:=hl j y v' e1 e2 e3
    refine⟨u',r',?_⟩
    rcases q with q|⟨k,c',e,z'⟩
    ·exact .inl q
    ·refine .inr ⟨k,c',e,z'.sameBut hs ?_⟩
     rintro rfl
     exact hj (ϰC hN e1 (I.ok.inj _ _ _ e hc▸hi))
  ·by_cases hcc:c'=c
   ·subst hcc;exact⟨_,hc'⟩
   ·obtain⟨w2,z2⟩:=I.cell y c' e
    exact⟨w2,z2.sameBut hs hcc⟩
  ·obtain⟨e,n,ne,nf,d⟩:=I.pin p hp
   refine⟨(hs.2 p.1 ?_).trans e,n,ne,nf,d⟩
   intro q
   rw[q,hoc] at e
   have q':oc=p.2:=Option.some.inj e
   exact d w' (by rw[← q'];exact hocd)
theorem ϰv {M:Model}{A:Around}{E:Value→Shared→Prop}{i:Nat}{x:Str}{v:V}{u:Value}{Q:Unit→Shared→Prop} (I:Inv X pins σ H s) (hN:X.N.Nodup) (hi:X.N[i]?=some x) (hx:Loc X.env.scope x) (r:RelV v u)
  (h:∀s',Inv X pins (σ.set i (some v)) H s'→Q () s') (hf:X.fn x=true∨X.env.scope.names.lookup x=some .local:=by first|exact .inl rfl|exact .inr rfl|assumption):wpAny M A (storeName X.env x u) Q E s:=
 ϰ2 I hN hi hx r (fun s' I' _=>h s' I') hf
theorem Inv.call' {s':Shared}{ch:List Addr} (I:Inv X pins σ H s) (ho:s'.os=s.os) (u:Un (frs X.stack) ch H H' s.heap s'.heap) (hok:HOk X.prog X.w H' s'.heap) (hg:AllBare s'.gens)
  (hch:∀b∈ch,(b∈X.ex∨X.s₀.heap.objs.size≤b)∧b≠X.env.locals∧(∀ x c,X.env.cells.lookup x=some c→c≠b)∧∀p∈X.pn++pins,p.1≠b):Inv X pins σ H' s':=by
 obtain⟨h',g',d',t',o'⟩:=s'
 have e:o'=s.os:=ho
 subst e
 exact I.call (g':=g') (t':=t') (d':=d') u hok hg hch
end
abbrev XK:=Value→Option Addr→Hp→Prop
abbrev St:=List (Option V)
abbrev VK:=V→Hp→Prop
abbrev TE:=St→Hp→VK→Prop
abbrev TT:=St→Hp→(Bool→Hp→Prop)→Prop
abbrev TA:=St→Hp→(List V→Hp→Prop)→Prop
structure Ends where
 nx:St→Hp→Prop
 rt:VK
 bk:St→Hp→Prop:=fun _ _=>False
 ct:St→Hp→Prop:=fun _ _=>False
abbrev TS:=Ends→St→Hp→Prop
def EP (X:Cx) (pins:List (Addr×Obj)) (σ:St) (Q:VK) (u:Value) (s':Shared):Prop:=∃v H',Inv X pins σ H' s'∧RelV v u∧Q v H'
def TP (X:Cx) (pins:List (Addr×Obj)) (σ:St) (Q:Bool→Hp→Prop) (b:Bool) (s':Shared):Prop:=∃H',Inv X pins σ H' s'∧Q b H'
def AP (X:Cx) (pins:List (Addr×Obj)) (σ:St) (Q:List V→Hp→Prop) (us:List Value) (s':Shared):Prop:=∃vs H',Inv X pins σ H' s'∧Vals vs us∧Q vs H'
def SP (X:Cx) (pins:List (Addr×Obj)) (D:Ends) (f:Flow) (s':Shared):Prop:=
 match f with
 |.next=>∃σ' H',Inv X pins σ' H' s'∧D.nx σ' H'
 |.brk=>∃σ' H',Inv X pins σ' H' s'∧D.bk σ' H'
 |.cont=>∃σ' H',Inv X pins σ' H' s'∧D.ct σ' H'
 |.ret u=>∃v σ' H',Inv X pins σ' H' s'∧RelV v u∧D.rt v H'
def PE (X:Cx) (e:Expr) (t:TE):Prop:=
 ∀(pins:List (Addr×Obj)) (s:Shared) (σ:St) (H:Hp) (Q:VK),Inv X pins σ H s→t σ H Q→wpAny (model X.prog X.w) X.A (eval e X.env) (EP X pins σ Q) X.xe s
def PT (X:Cx) (e:Expr) (t:TT):Prop:=
 ∀(pins:List (Addr×Obj)) (s:Shared) (σ:St) (H:Hp) (Q:Bool→Hp→Prop),Inv X pins σ H s→t σ H Q→wpAny (model X.prog X.w) X.A (isTrue e X.env (eval e X.env)) (TP X pins σ Q) X.xe s
def PW (X:Cx) (e:Expr) (t:TT):Prop:=
 ∀(whole:Sem Value) (pins:List (Addr×Obj)) (s:Shared) (σ:St) (H:Hp) (Q:Bool→Hp→Prop),Inv X pins σ H s→t σ H Q→wpAny (model X.prog X.w) X.A (isTrue e X.env whole) (TP X pins σ Q) X.xe s
theorem PW.pt {X:Cx}{e:Expr}{t:TT} (h:PW X e t):PT X e t:=h _
def PA (X:Cx) (es:List Expr) (t:TA):Prop:=
 ∀(pos:Pos) (pins:List (Addr×Obj)) (s:Shared) (σ:St) (H:Hp) (Q:List V→Hp→Prop),Inv X pins σ H s→t σ H Q→wpAny (model X.prog X.w) X.A (spliced (backTo pos (starEach es X.env))) (AP X pins σ Q) X.xe s
def PS (X:Cx) (st:Stmt) (t:TS):Prop:=
 ∀(pins:List (Addr×Obj)) (s:Shared) (σ:St) (H:Hp) (D:Ends),Inv X pins σ H s→t D σ H→wpAny (model X.prog X.w) X.A (exec st X.env) (SP X pins D) X.xe s
def PSs (X:Cx) (st:List Stmt) (t:TS):Prop:=
 ∀(pins:List (Addr×Obj)) (s:Shared) (σ:St) (H:Hp) (D:Ends),Inv X pins σ H s→t D σ H→wpAny (model X.prog X.w) X.A (execs st X.env) (SP X pins D) X.xe s
theorem thn {α:Type}{t:Sem α}{Q Q':α→Shared→Prop}{M:Model}{A:Around}{E:Value→Shared→Prop}{s:Shared} (h:wpAny M A t Q E s) (hQ:∀a s,Q a s→Q' a s):wpAny M A t Q' E s:=wpAny_mono h hQ fun _ _ x=>x
end L2
namespace L2
open PySem PySem.Spec PyProof.Rows
section
variable {X:Cx}
def tVar (i:Nat):TE:=fun σ H Q=>∃v,σ[i]?=some (some v)∧Q v H
def tC (v:V):TE:=fun _ H Q=>Q v H
theorem ϲl {i:Nat}{x:Str}{pos:Pos} (hN:X.N[i]?=some x) (hv:Vis X.env.scope x) (hd:(x == ("__debug__":Str))=false:=by decide) (hcd:(x == ("__classdict__":Str))=false:=by decide):PE X (.Name x pos) (tVar i):=by
 intro pins s σ H Q I h
 obtain⟨v,e,h⟩:=h
 obtain⟨m,hn,hl⟩:=I.loc
 obtain⟨u,r,l⟩:=hl i x v hN e hv
 have fin:EP X pins σ Q u s:=⟨v,H,I,r,h⟩
 rcases l with⟨hk,hm⟩|⟨hk,c,hc,hcell⟩
 ·exact wpAny_Name (wpAny_loadName_local I.ok.kind hk hn hm fin) hd
 ·rcases hk with hk|hk
  ·exact wpAny_Name (wpAny_loadName_cell I.ok.kind hk hc hcell fin) hd
  ·exact wpAny_Name (wpAny_loadName_free I.ok.kind hk hc hcell fin hcd) hd
theorem ϖr {i j pos}:PE X (.Constant (.int i) j pos) (tC (.int i)):=fun _ _ _ H _ I h=>wpAny_Constant_int ⟨.int i,H,I.tok _,⟨_,rfl⟩,h⟩
theorem pe_bl {b j pos}:PE X (.Constant (.bool b) j pos) (tC (.bl b)):=fun _ _ _ H _ I h=>Constant_bool ⟨.bl b,H,I,rfl,h⟩
theorem ϑW {j pos}:PE X (.Constant .none j pos) (tC .non):=fun _ _ _ H _ I h=>Constant_none ⟨.non,H,I,rfl,h⟩
theorem ϱL {x j pos}:PE X (.Constant (.str x) j pos) (tC (.str x)):=fun _ _ _ H _ I h=>Calls.Constant_str ⟨.str x,H,I.tok _,⟨_,rfl⟩,h⟩
def Gl (X:Cx) (x:Str):Prop:=X.env.kindOf x=some .globalImplicit
theorem ϕT {E:Value→Shared→Prop}{pins:List (Addr×Obj)}{s:Shared}{σ:St}{H:Hp}{x:Str}{u:Value}{pos:Pos}{Q:Value→Shared→Prop} (I:Inv X pins σ H s) (hg:Gl X x) (hm:X.mg x=some u) (h:Q u s)
  (hd:(x == ("__debug__":Str))=false:=by decide):wpAny (model X.prog X.w) X.A (eval (.Name x pos) X.env) Q E s:=
 Calls.Name_function_global I.ok.kind hg (Calls.loadGlobal_global (by rw[I.ok.glob];exact I.mod.glob.keeps I.bk) hm h) hd
theorem ϕ5 {E:Value→Shared→Prop}{pins:List (Addr×Obj)}{s:Shared}{σ:St}{H:Hp}{x:Str}{u:Value}{pos:Pos}{Q:Value→Shared→Prop} (I:Inv X pins σ H s) (hg:Gl X x) (hm:X.mg x=none) (hv:bootBuiltins x=some u) (h:Q u s)
  (hn:x≠"__name__":=by decide) (hd:(x == ("__debug__":Str))=false:=by decide):wpAny (model X.prog X.w) X.A (eval (.Name x pos) X.env) Q E s:=by
 obtain⟨mb,h1,h2⟩:=I.mod.blt
 exact Calls.Name_function_global I.ok.kind hg (Calls.loadGlobal_builtin (by rw[I.ok.glob];exact I.mod.glob.keeps I.bk) hm (by rw[I.ok.blt];exact h1.keeps I.bk) ((h2 x hn).trans hv) h) hd
theorem ϵL {x:Str}{v:V}{u:Value}{pos:Pos} (hg:Gl X x) (hm:X.mg x=some u) (r:RelV v u) (hd:(x == ("__debug__":Str))=false:=by decide):PE X (.Name x pos) (tC v):=
 fun _ _ _ H _ I h=>ϕT I hg hm ⟨v,H,I,r,h⟩ hd
theorem ϲE {x:Str}{v:V}{u:Value}{pos:Pos} (hg:Gl X x) (hm:X.mg x=none) (hv:bootBuiltins x=some u) (r:RelV v u) (hn:x≠"__name__":=by decide) (hd:(x == ("__debug__":Str))=false:=by decide):PE X (.Name x pos) (tC v):=
 fun _ _ _ H _ I h=>ϕ5 I hg hm hv ⟨v,H,I,r,h⟩ hn hd
variable {a b:Expr}{ta tb:TE}{pos:Pos}
def PC (X:Cx) (op:CmpOp) (a b:Expr) (t:TE):Prop:=
 ∀(pins:List (Addr×Obj)) (s:Shared) (σ:St) (H:Hp) (Q:VK),Inv X pins σ H s→t σ H Q →
  wpAny (model X.prog X.w) X.A (eval a X.env) (fun v s₁=>wpAny (model X.prog X.w) X.A (eval b X.env) (fun u s₂=>wpAny (model X.prog X.w) X.A (compareOp op v u) (EP X pins σ Q) X.xe s₂) X.xe s₁) X.xe s
def tB (t:TE):TT:=fun σ H Q=>t σ H fun x H1=>∃c,x=.bl c∧Q c H1
theorem ϰq {op:CmpOp}{t:TE} (h:PC X op a b t) (h1:behindInMarks op b=false:=by first|exact nobehind _ (by decide) (by decide)|rfl):PT X (.Compare a [op] [b] pos) (tB t):=by
 intro pins s σ H Q I hw
 refine wpAny_isTrue_Compare1 (thn (h pins s σ H _ I hw) fun v s1 h1=>thn h1 fun u s2 h2=>thn h2 fun c s3 ⟨x,H1,I1,r1,q1⟩=>?_) h1
 obtain⟨d,rfl,q⟩:=q1
 cases r1
 exact wpAny_truthy_bool ⟨H1,I1,q⟩
theorem ϰo {e:Expr}{t:TE} (h:PE X e t) (he:∀whole,isTrue e X.env whole=(do let v ← whole;standAt e.pos;holding [v] (truthy v)):=by intro _;rfl):PT X e (tB t):=by
 intro pins s σ H Q I hw
 refine isTrue_plain (thn (h pins s σ H _ I hw) fun v s1 ⟨x,H1,I1,r1,q1⟩=>?_) (he _)
 obtain⟨d,rfl,q⟩:=q1
 cases r1
 exact wpAny_truthy_bool ⟨H1,I1,q⟩
variable {tA tB':TT}{rest:List Expr}
def tAnd (t u:TT):TT:=fun σ H Q=>t σ H fun c H1=>if c=true then u σ H1 Q else Q false H1
def tOr (t u:TT):TT:=fun σ H Q=>t σ H fun c H1=>if c=true then Q true H1 else u σ H1 Q
def tNot (t:TT):TT:=fun σ H Q=>t σ H fun c H1=>Q (!c) H1
theorem ϰK (ha:PT X a tA):PW X (.BoolOp .And [a] pos) tA:=by
 intro wh pins s σ H Q I h
 refine isTrue_and (thn (ha pins s σ H Q I h) fun c s1 e=>?_)
 cases c with
 |true=>exact isTrue_and_nil e
 |false=>exact e
theorem pw_or1 (ha:PT X a tA):PW X (.BoolOp .Or [a] pos) tA:=by
 intro wh pins s σ H Q I h
 refine isTrue_or (thn (ha pins s σ H Q I h) fun c s1 e=>?_)
 cases c with
 |false=>exact isTrue_or_nil e
 |true=>exact e
theorem ϱK (ha:PT X a tA) (hb:PW X (.BoolOp .And (b::rest) pos) tB'):PW X (.BoolOp .And (a::b::rest) pos) (tAnd tA tB'):=by
 intro wh pins s σ H Q I h
 refine isTrue_and (thn (ha pins s σ H _ I h) fun c s1 ⟨H1,I1,q1⟩=>?_)
 cases c with
 |true=>exact hb wh pins s1 σ H1 Q I1 q1
 |false=>exact⟨H1,I1,q1⟩
theorem pw_or (ha:PT X a tA) (hb:PW X (.BoolOp .Or (b::rest) pos) tB'):PW X (.BoolOp .Or (a::b::rest) pos) (tOr tA tB'):=by
 intro wh pins s σ H Q I h
 refine isTrue_or (thn (ha pins s σ H _ I h) fun c s1 ⟨H1,I1,q1⟩=>?_)
 cases c with
 |true=>exact⟨H1,I1,q1⟩
 |false=>exact hb wh pins s1 σ H1 Q I1 q1
theorem ϲg (ha:PT X a tA):PT X (.UnaryOp .Not a pos) (tNot tA):=by
 intro pins s σ H Q I h
 exact isTrue_not (ha pins s σ H (fun c H1=>Q (!c) H1) I h)
def tOrV (ta tb:TE):TE:=fun σ H Q=>ta σ H fun x H1=>∃c,x=.bl c∧if c=true then Q (.bl true) H1 else tb σ H1 Q
theorem ϲO (ha:PE X a ta) (hb:PE X (.BoolOp .Or (b::rest) pos) tb):PE X (.BoolOp .Or (a::b::rest) pos) (tOrV ta tb):=by
 intro pins s σ H Q I h
 refine BoolOp_or (thn (ha pins s σ H _ I h) fun v s1 ⟨x,H1,I1,r1,q1⟩=>?_)
 obtain⟨c,rfl,q1⟩:=q1
 cases r1
 refine wpAny_truthy_bool ?_
 cases c with
 |false=>exact hb pins s1 σ H1 Q I1 q1
 |true=>exact⟨.bl true,H1,I1,rfl,q1⟩
end
end L2
namespace L2
open PySem PySem.Spec PyProof.Rows
def SqL (K:PySem.W.Frag) (H:Hp) (a:Addr) (xs:List V):Prop:=
 Rd H a (.lst xs) ∨
  ∃(o:Obj) (its:Array Value) (n:Nat),K.lookup a=some o∧o.cls=.type "list"∧o.dict=none∧o.data=.seq its n∧its.size≤sizeLine∧Vals xs its.toList
def SqT (K:PySem.W.Frag) (H:Hp) (a:Addr) (xs:List V):Prop:=
 Rd H a (.tup xs) ∨
  ∃(o:Obj) (its:Array Value) (n:Nat),K.lookup a=some o∧o.cls=.type "tuple"∧o.data=.seq its n∧its.size≤sizeLine∧Vals xs its.toList
def absV:Value→Option V
 |.none=>some .non
 |.bool b=>some (.bl b)
 |.int i _=>some (.int i)
 |.str x _=>some (.str x)
 |.bytes b _=>some (.byt b)
 |.float b _=>some (.flt b)
 |.ref a=>some (.ref a)
 |.type n=>some (.ty n)
 |_=>none
theorem RelV.abs {x:V}{u:Value} (r:RelV x u):absV u=some x:=by
 cases x with
 |non=>cases r;rfl
 |bl _=>cases r;rfl
 |int _=>obtain⟨t,rfl⟩:=r;rfl
 |str _=>obtain⟨t,rfl⟩:=r;rfl
 |byt _=>obtain⟨t,rfl⟩:=r;rfl
 |flt _=>obtain⟨t,rfl⟩:=r;rfl
 |ref _=>cases r;rfl
 |ty _=>cases r;rfl
theorem RelV.inj {x y:V}{u:Value} (r:RelV x u) (q:RelV y u):x=y:=Option.some.inj (r.abs.symm.trans q.abs)
theorem Vals.inj:∀{xs ys:List V}{us:List Value},Vals xs us→Vals ys us→xs=ys
 |_,_,_,.nil,.nil=>rfl
 |_,_,_,.cons r t,.cons r' t'=>by rw[r.inj r',Vals.inj t t']
section
variable {X:Cx}{pins:List (Addr×Obj)}{σ:St}{H:Hp}{s:Shared}{a:Addr}{xs ys:List V}
theorem SqL.of {K:PySem.W.Frag} (h:H a=some (.lst xs)):SqL K H a xs:=.inl (.inl h)
theorem SqT.of {K:PySem.W.Frag} (h:H a=some (.tup xs)):SqT K H a xs:=.inl (.inl h)
theorem Inv.list (I:Inv X pins σ H s) (h:SqL X.K H a xs):∃its:List Value,Vals xs its∧PlainL s.heap a its.toArray∧xs.length≤sizeLine:=by
 rcases h with h|⟨o,its,n,hk,hc,hd,hs,hz,r⟩
 ·obtain⟨z,its,n,r,e⟩:=h.ok I.hok
  exact⟨its,r,⟨_,n,e,rfl,rfl,rfl⟩,z⟩
 ·refine⟨its.toList,r,⟨o,n,I.kIn a o hk,hc,hd,by simpa using hs⟩,?_⟩
  have e:=r.length
  simp only[Array.length_toList] at e
  omega
theorem Inv.tuple (I:Inv X pins σ H s) (h:SqT X.K H a xs):∃its:List Value,Vals xs its∧IsTup s.heap a its.toArray∧xs.length≤sizeLine:=by
 rcases h with h|⟨o,its,n,hk,hc,hs,hz,r⟩
 ·obtain⟨z,its,r,p⟩:=h.ok I.hok
  exact⟨its,r,p,z⟩
 ·refine⟨its.toList,r,⟨o,I.kIn a o hk,hc,n,by simpa using hs⟩,?_⟩
  have e:=r.length
  simp only[Array.length_toList] at e
  omega
theorem Inv.list_inj (I:Inv X pins σ H s) (h:SqL X.K H a xs) (h':SqL X.K H a ys):xs=ys:=by
 obtain⟨its,r,⟨o,n,e,_,_,d⟩,_⟩:=I.list h
 obtain⟨its',r',⟨o',n',e',_,_,d'⟩,_⟩:=I.list h'
 rw[e] at e';cases e'
 rw[d] at d'
 injection d' with d1 _
 have:its=its':=by simpa using congrArg Array.toList d1
 subst this
 exact r.inj r'
theorem Inv.tuple_inj (I:Inv X pins σ H s) (h:SqT X.K H a xs) (h':SqT X.K H a ys):xs=ys:=by
 obtain⟨its,r,⟨o,e,_,n,d⟩,_⟩:=I.tuple h
 obtain⟨its',r',⟨o',e',_,n',d'⟩,_⟩:=I.tuple h'
 rw[e] at e';cases e'
 rw[d] at d'
 injection d' with d1 _
 have:its=its':=by simpa using congrArg Array.toList d1
 subst this
 exact r.inj r'
end
abbrev Cx.wish (X:Cx) (E:Value→Shared→Prop):Cx:={ X with xe:=E }
abbrev Cx.nox (X:Cx):Cx:=X.wish fun _ _=>False
theorem Cx.Ok.wish {X:Cx} (ok:X.Ok) (E:Value→Shared→Prop):(X.wish E).Ok:=
 ⟨ok.mod,ok.kind,ok.glob,ok.blt,ok.above,ok.inj,ok.has,ok.cab,ok.hd,ok.frames,ok.stk,ok.exf,ok.bs,ok.bsz,ok.noex,ok.exfs,ok.funs,ok.frf⟩
theorem Cx.Ok.unwish {X:Cx}{E:Value→Shared→Prop} (ok:(X.wish E).Ok):X.Ok:=
 ⟨ok.mod,ok.kind,ok.glob,ok.blt,ok.above,ok.inj,ok.has,ok.cab,ok.hd,ok.frames,ok.stk,ok.exf,ok.bs,ok.bsz,ok.noex,ok.exfs,ok.funs,ok.frf⟩
section
variable {X:Cx}{pins:List (Addr×Obj)}{σ:St}{H:Hp}{s:Shared}{E:Value→Shared→Prop}
theorem Inv.wish (I:Inv X pins σ H s) (E:Value→Shared→Prop):Inv (X.wish E) pins σ H s:=⟨I.ok.wish E,I.os,I.bare,I.base,I.loc,I.cell,I.free,I.freeC,I.pin,I.hok,I.len⟩
theorem Inv.unwish (I:Inv (X.wish E) pins σ H s):Inv X pins σ H s:=⟨I.ok.unwish,I.os,I.bare,I.base,I.loc,I.cell,I.free,I.freeC,I.pin,I.hok,I.len⟩
theorem SP.unwish {D:Ends}{f:Flow}{s':Shared} (h:SP (X.wish E) pins D f s'):SP X pins D f s':=by
 cases f with
 |next=>obtain⟨σ',H',I,q⟩:=h;exact⟨σ',H',I.unwish,q⟩
 |brk=>obtain⟨σ',H',I,q⟩:=h;exact⟨σ',H',I.unwish,q⟩
 |cont=>obtain⟨σ',H',I,q⟩:=h;exact⟨σ',H',I.unwish,q⟩
 |ret u=>obtain⟨v,σ',H',I,r,q⟩:=h;exact⟨v,σ',H',I.unwish,r,q⟩
theorem PSs.nox {st:List Stmt}{t:TS} (h:PSs X.nox st t):PSs X st t:=fun pins s σ H D I hw=>
 wpAny_mono (h pins s σ H D (I.wish _) hw) (fun _ _ q=>q.unwish) fun _ _ z=>False.elim z
end
section
variable {X:Cx}{st:Stmt}{rest:List Stmt}{t u:TS}{e:Expr}{te:TE}{pos:Pos}
def tNext:TS:=fun D σ H=>D.nx σ H
def tSeq (t u:TS):TS:=fun D σ H=>t { D with nx:=u D } σ H
theorem ϑc:PSs X [] tNext:=fun _ _ σ H _ I h=>wpAny_execs_nil ⟨σ,H,I,h⟩
theorem ϖj (h1:PS X st t) (h2:PSs X rest u):PSs X (st::rest) (tSeq t u):=by
 intro pins s σ H D I h
 refine wpAny_execs_cons (thn (h1 pins s σ H { D with nx:=u D } I h) fun f s1 q=>?_)
 cases f with
 |next=>
  obtain⟨σ',H',I',q⟩:=q
  exact h2 pins s1 σ' H' D I' q
 |ret v=>exact q
 |brk=>exact q
 |cont=>exact q
theorem ϖq (h1:PS X st t):PSs X [st] t:=by
 intro pins s σ H D I h
 refine wpAny_execs_cons (thn (h1 pins s σ H D I h) fun f s1 q=>?_)
 cases f with
 |next=>exact wpAny_execs_nil q
 |ret v=>exact q
 |brk=>exact q
 |cont=>exact q
theorem Inv.quiet {pins:List (Addr×Obj)}{σ:St}{H:Hp}{s:Shared} (I:Inv X pins σ H s):interactive X.env=false:=by simp[interactive,I.ok.kind]
def tDrop (te:TE):TS:=fun D σ H=>te σ H fun _ H1=>D.nx σ H1
theorem ϑ5 (he:PE X e te) (hs:swapsWith e none pos.line X.env=pure false:=by rfl):PS X (.Expr e pos) (tDrop te):=by
 intro pins s σ H D I h
 exact wpAny_Expr_any (thn (he pins s σ H _ I h) fun v s1 ⟨x,H1,I1,r1,q1⟩=>⟨σ,H1,I1,q1⟩) I.quiet hs
def tRet (te:TE):TS:=fun D σ H=>te σ H D.rt
theorem ϖP (he:PE X e te):PS X (.Return (some e) pos) (tRet te):=by
 intro pins s σ H D I h
 exact wpAny_Return_some (thn (he pins s σ H _ I h) fun v s1 ⟨x,H1,I1,r1,q1⟩=>⟨x,σ,H1,I1,r1,q1⟩)
def tIfS (c:TT) (t u:TS):TS:=fun D σ H=>c σ H fun b H1=>if b=true then t D σ H1 else u D σ H1
theorem ϑ3 {c:Expr}{a b:List Stmt}{tc:TT} (hc:PT X c tc) (ha:PSs X a t) (hb:PSs X b u):PS X (.If c a b pos) (tIfS tc t u):=by
 intro pins s σ H D I h
 refine wpAny_If (thn (hc pins s σ H _ I h) fun d s1 ⟨H1,I1,q1⟩=>?_)
 cases d with
 |true=>exact ha pins s1 σ H1 D I1 q1
 |false=>exact hb pins s1 σ H1 D I1 q1
end
abbrev TG:=V→St→Hp→(St→Hp→Prop)→Prop
abbrev TGs:=List V→St→Hp→(St→Hp→Prop)→Prop
def PG (X:Cx) (target:Expr) (t:TG):Prop:=
 ∀(pins:List (Addr×Obj)) (s:Shared) (σ:St) (H:Hp) (v:V) (u:Value) (Q:St→Hp→Prop),Inv X pins σ H s→RelV v u→t v σ H Q →
  wpAny (model X.prog X.w) X.A (assign target X.env u) (fun _ s'=>∃σ' H',Inv X pins σ' H' s'∧Q σ' H') X.xe s
def PGs (X:Cx) (ts:List Expr) (t:TGs):Prop:=
 ∀(pins:List (Addr×Obj)) (s:Shared) (σ:St) (H:Hp) (vs:List V) (us:List Value) (Q:St→Hp→Prop),Inv X pins σ H s→Vals vs us→t vs σ H Q →
  wpAny (model X.prog X.w) X.A (assignInOrder ((assignEach ts X.env).map (·.2)) us) (fun _ s'=>∃σ' H',Inv X pins σ' H' s'∧Q σ' H') X.xe s
section
variable {X:Cx}{pos:Pos}
def ϵV (i:Nat):TG:=fun v σ H Q=>Q (σ.set i (some v)) H
theorem ϖF {i:Nat}{x:Str} (hN:X.N.Nodup) (hi:X.N[i]?=some x) (hx:Loc X.env.scope x) (hf:X.fn x=true∨X.env.scope.names.lookup x=some .local:=by first|exact .inl rfl|exact .inr rfl|assumption):PG X (.Name x pos) (ϵV i):=by
 intro pins s σ H v u Q I r h
 exact wpAny_assign_Name (ϰv I hN hi hx r (fun s' I'=>⟨_,H,I',h⟩) hf)
def gNil:TGs:=fun vs σ H Q=>vs=[]∧Q σ H
def gCons (t:TG) (u:TGs):TGs:=fun vs σ H Q=>∃v r,vs=v::r∧t v σ H fun σ' H'=>u r σ' H' Q
theorem ϕd:PGs X [] gNil:=by
 intro pins s σ H vs us Q I r h
 obtain⟨e,h⟩:=h
 subst e
 cases r
 exact assignInOrder_nil ⟨σ,H,I,h⟩
theorem ϖ3 {e:Expr}{es:List Expr}{t:TG}{u:TGs} (h1:PG X e t) (h2:PGs X es u)
  (hs:(assignEach (e::es) X.env).map (·.2)=assign e X.env::(assignEach es X.env).map (·.2):=by rfl):PGs X (e::es) (gCons t u):=by
 intro pins s σ H vs us Q I r h
 obtain⟨v,vr,e1,h⟩:=h
 subst e1
 cases r with
 |cons r rr=>
  rw[hs]
  refine assignInOrder_cons (thn (h1 pins s σ H _ _ _ I r h) fun _ s1 ⟨σ1,H1,I1,q1⟩=>?_)
  exact h2 pins s1 σ1 H1 _ _ Q I1 rr q1
def gTup (K:PySem.W.Frag) (n:Nat) (t:TGs):TG:=fun v σ H Q=>∃a xs,v=.ref a∧SqT K H a xs∧xs.length=n∧t xs σ H Q
theorem ϕW {es:List Expr}{k:Nat}{t:TGs}{n:Nat} (hc:X.calm=true) (h:PGs X es t)
  (hn:(assignEach es X.env).length=n:=by rfl) (hst:(assignEach es X.env).findIdx? (·.1)=none:=by rfl):PG X (.Tuple es k pos) (gTup X.K n t):=by
 intro pins s σ H v u Q I r hw
 obtain⟨a,xs,e1,hq,hl,hw⟩:=hw
 subst e1
 cases r
 obtain⟨its,rv,ht,hz⟩:=I.tuple hq
 refine assign_Tuple_tuple (I.ok.hd hc) ht (by simp[hn,← hl,rv.length]) hst fun h' hx=>?_
 have I1:Inv X pins σ H { s with heap:=h' }:=I.kept (t':=s.toks) fun b o e=>hx b o (Nat.ne_of_lt (Heap.lt_size e)) e
 exact h pins _ σ H xs _ Q I1 (by simpa using rv) hw
def tAsg (te:TE) (g:TG):TS:=fun D σ H=>te σ H fun x H1=>g x σ H1 D.nx
theorem ϖx {i:Nat}{x:Str}{e:Expr}{te:TE}{pos':Pos} (hN:X.N.Nodup) (hi:X.N[i]?=some x) (hx:Loc X.env.scope x) (he:PE X e te) (hs:swapsWith e (some (.Name x pos')) pos.line X.env=pure false:=by rfl) (hf:X.fn x=true∨X.env.scope.names.lookup x=some .local:=by first|exact .inl rfl|exact .inr rfl|assumption) :
  PS X (.Assign [.Name x pos'] e pos) (tAsg te (ϵV i)):=by
 intro pins s σ H D I h
 refine wpAny_Assign_Name (thn (he pins s σ H _ I h) fun v s1 ⟨y,H1,I1,r1,q1⟩=>?_) hs
 exact ϰv I1 hN hi hx r1 (fun s2 I2=>⟨_,H1,I2,q1⟩) hf
end
section
variable {X:Cx}{pos:Pos}
def tWhile (c:TT) (tb:TS):TS:=fun D σ H=>∃W:Nat→St→Hp→Prop,(∃ m,W m σ H)∧∀m σ H,W m σ H →
 c σ H fun b H1=>if b=true then ∃N:St→Hp→Prop,(∀ σ' H',N σ' H'→∃m',m' < m∧W m' σ' H')∧tb { D with nx:=N,ct:=N,bk:=D.nx } σ H1 else D.nx σ H1
theorem ϱM {c:Expr}{body:List Stmt}{tc:TT}{tb:TS} (hp:PassesOwn (model X.prog X.w) X.A X.env X.xe) (hc:PT X c tc) (hb:PSs X body tb):PS X (.While c body [] pos) (tWhile tc tb):=by
 intro pins s σ H D I h
 obtain⟨W,⟨m0,w0⟩,turn⟩:=h
 refine wpAny_While (codeAny_whileLoop (fun n s'=>∃σ' H',Inv X pins σ' H' s'∧W n σ' H') ?_ m0 ⟨σ,H,I,w0⟩)
 rintro n s1 ⟨σ1,H1,I1,w1⟩
 refine wpAny_passesOwn hp (thn (hc pins s1 σ1 H1 _ I1 (turn n σ1 H1 w1)) fun b s2 ⟨H2,I2,q2⟩=>?_)
 cases b with
 |true=>
  obtain⟨N,hN,q2⟩:=q2
  rw[if_pos rfl]
  refine wpAny_passesOwn hp (thn (hb pins s2 σ1 H2 _ I2 q2) fun f s3 q3=>?_)
  cases f with
  |next=>
   obtain⟨σ3,H3,I3,n3⟩:=q3
   obtain⟨m',hm,w3⟩:=hN σ3 H3 n3
   exact⟨m',hm,σ3,H3,I3,w3⟩
  |cont=>
   obtain⟨σ3,H3,I3,n3⟩:=q3
   obtain⟨m',hm,w3⟩:=hN σ3 H3 n3
   exact⟨m',hm,σ3,H3,I3,w3⟩
  |brk=>exact q3
  |ret v=>exact q3
 |false=>
  rw[if_neg Bool.false_ne_true]
  exact wpAny_execs_nil ⟨σ1,H2,I2,q2⟩
end
structure It where
 go:Nat→Hp→Prop
 yld:Nat→Hp→V→Hp→Prop
 stop:Nat→Hp→Prop
def FpOk (X:Cx) (pins:List (Addr×Obj)) (H:Hp) (b:Addr):Prop:=
 H b=none∧b≠X.env.locals∧b∉X.fs∧(b∈X.ex∨X.s₀.heap.objs.size≤b)∧(∀ x c,X.env.cells.lookup x=some c→c≠b)∧∀p∈X.pn++pins,p.1≠b
theorem Inv.fpOk {X:Cx}{pins:List (Addr×Obj)}{σ:St}{H H':Hp}{s:Shared}{b:Addr} (I:Inv X pins σ H s) (hb:s.heap.objs.size≤b) (hn:H' b=none):FpOk X pins H' b:=by
 refine⟨hn,Nat.ne_of_gt (Nat.lt_of_lt_of_le I.lt hb),I.nofs hb,.inr (Nat.le_trans I.sz hb),fun x c e z=>?_,fun p hp z=>?_⟩
 ·obtain⟨v,q⟩:=I.cell x c e
  exact absurd (Nat.lt_of_lt_of_le q.lt (by rw[z];exact hb)) (Nat.lt_irrefl _)
 ·exact absurd (Nat.lt_of_lt_of_le (Heap.lt_size (I.pin p hp).1) (by rw[z];exact hb)) (Nat.lt_irrefl _)
structure Turn (P:Program) (w:World) (K:PySem.W.Frag) (tg:Expr) (J:It) (fp:List Addr) (it:Addr) (tn:Nat→Heap→Prop):Prop where
 mem:it∈fp
 obj:∀i h,tn i h→∀b∈fp,∃o,h.get? b=some o∧∀v,o.data≠.cell v
 keep:∀i h h',tn i h→(∀ b∈fp,∀o,h.get? b=some o→h'.get? b=some o)→tn i h'
 item:∀(X:Cx),X.prog=P→X.w=w→X.K=K→X.calm=true→∀(i:Nat) (pins:List (Addr×Obj)) (s:Shared) (σ:St) (H:Hp) (E:Value→Shared→Prop),Inv X pins σ H s→(∀ b∈fp,FpOk X pins H b)→tn i s.heap→J.go i H →
  wpAny (model P w) X.A (pyNext (.ref it)) (fun r s1=>∃u,r=some u ∧
   wpAny (model P w) X.A (letOwnedTupleGo tg (.ref it) u) (fun _ s2=>∃x H',Inv X pins σ H' s2∧RelV x u∧J.yld i H x H'∧tn (i+1) s2.heap∧∀b∈fp,H' b=none) E s1) E s
 done:∀(X:Cx),X.prog=P→X.w=w→X.K=K→X.calm=true→∀(i:Nat) (pins:List (Addr×Obj)) (s:Shared) (σ:St) (H:Hp) (E:Value→Shared→Prop),Inv X pins σ H s→(∀ b∈fp,FpOk X pins H b)→tn i s.heap→J.stop i H →
  wpAny (model P w) X.A (pyNext (.ref it)) (fun r s1=>r=none∧Inv X pins σ H s1) E s
 self:∀(A:Around) (i:Nat) (s:Shared) (Q:Value→Shared→Prop) (E:Value→Shared→Prop),tn i s.heap→Q (.ref it) s→wpAny (model P w) A (pyIter (.ref it)) Q E s
abbrev TI:=St→Hp→(It→Hp→Prop)→Prop
def PIE (X:Cx) (pins:List (Addr×Obj)) (σ:St) (tg:Expr) (R:It→Hp→Prop) (itv:Value) (s2:Shared):Prop:=
 ∃(it:Addr) (fp:List Addr) (tn:Nat→Heap→Prop) (J:It) (H':Hp),itv=.ref it∧Inv X pins σ H' s2∧Turn X.prog X.w X.K tg J fp it tn∧tn 0 s2.heap∧(∀ b∈fp,FpOk X pins H' b)∧R J H'
def PI (X:Cx) (tg iter:Expr) (wi:TI):Prop:=
 ∀(pins:List (Addr×Obj)) (s:Shared) (σ:St) (H:Hp) (R:It→Hp→Prop),Inv X pins σ H s→wi σ H R →
  wpAny (model X.prog X.w) X.A (eval iter X.env) (fun v s1=>wpAny (model X.prog X.w) X.A (pyIter v) (PIE X pins σ tg R) X.xe s1) X.xe s
theorem ϲ3 {M:Model}{A:Around}{E:Value→Shared→Prop}{s:Shared}{tg:Expr}{it:Addr}{u:Value}{o:Obj}{n:String}{vs:Array Value}{Q:Unit→Shared→Prop} (ho:s.heap.get? it=some o) (hc:o.cls=.type n) (hd:o.data=.fields vs)
  (hn:["enumerate","zip","dict_itemiterator","dict_reverseitemiterator","odict_iterator","itertools.zip_longest","itertools.pairwise"].contains n=false) (hQ:Q () s):wpAny M A (letOwnedTupleGo tg (.ref it) u) Q E s:=by
 unfold letOwnedTupleGo
 cases tg<;>first
  |exact wpAny_pure hQ
  |(cases u<;>first
    |exact wpAny_pure hQ
    |(refine wpAny_bind (wpAny_load ho ?_)
      rw[hc,hd]
      show wpAny M A (if (["enumerate","zip","dict_itemiterator","dict_reverseitemiterator","odict_iterator","itertools.zip_longest","itertools.pairwise"].contains n && vs[0]? == some (rawInt _))=true then _ else _) Q E s
      rw[if_neg (by intro h;rw[hn,Bool.false_and] at h;cases h)]
      exact wpAny_pure hQ))
def Itl (K:PySem.W.Frag) (a:Addr):It:=
 ⟨fun i H=>∃xs x,SqL K H a xs∧xs[i]?=some x,fun i H x H'=>H'=H∧∀xs,SqL K H a xs→xs[i]?=some x,fun i H=>∃xs,SqL K H a xs∧xs.length≤i⟩
def Itt (K:PySem.W.Frag) (a:Addr):It:=
 ⟨fun i H=>∃xs x,SqT K H a xs∧xs[i]?=some x,fun i H x H'=>H'=H∧∀xs,SqT K H a xs→xs[i]?=some x,fun i H=>∃xs,SqT K H a xs∧xs.length≤i⟩
def Itr (lo:Int) (n:Nat):It:=⟨fun i _=>i < n,fun i H x H'=>H'=H∧x=.int (lo+i),fun i _=>n≤i⟩
theorem ϵz {P:Program}{w:World}{K:PySem.W.Frag}{tg:Expr} (a it:Addr):Turn P w K tg (Itl K a) [it] it (fun i h=>h.IsListIter it a i) where
 mem:=by simp
 obj:=fun i h st b hb=>by
  have e:b=it:=by simpa using hb
  subst e
  obtain⟨o,e,c,d⟩:=st
  exact⟨o,e,fun v z=>by rw[d] at z;cases z⟩
 keep:=fun i h h' st k=>st.at fun o e=>k it (by simp) o e
 item:=by
  intro X hP hw hK hc i pins s σ H E I hf st hg
  subst hP hw hK
  obtain⟨xs,x,hq,hx⟩:=hg
  obtain⟨its,rv,p,hz⟩:=I.list hq
  obtain⟨u,hu,ru⟩:=rv.get hx
  obtain⟨f0,f1,f2,f3,f4,f5⟩:=hf it (by simp)
  refine wpAny_pyNext_list_item st p.isList (x:=u) (by simpa using hu) fun h' st' sb=>?_
  have I1:Inv X pins σ H { s with heap:=h' }:=I.turned (t':=s.toks) (fun b o hb e=>(sb.2 b hb).trans e) f0 f1 f3 f4 f5
  obtain⟨o,e,c,d⟩:=id st'
  exact⟨u,rfl,ϲ3 (s:={ s with heap:=h' }) e c d (by decide) ⟨x,H,I1,ru,⟨rfl,fun ys hy=>by rw[I.list_inj hy hq];exact hx⟩,st',fun b hb=>(hf b hb).1⟩⟩
 done:=by
  intro X hP hw hK hc i pins s σ H E I hf st hg
  subst hP hw hK
  obtain⟨xs,hq,hx⟩:=hg
  obtain⟨its,rv,p,hz⟩:=I.list hq
  obtain⟨f0,f1,f2,f3,f4,f5⟩:=hf it (by simp)
  have hl:=rv.length
  exact wpAny_pyNext_list_end (I.ok.hd hc) st p.isList (by simp;omega) fun h' eb=>⟨rfl,I.turned (t':=s.toks) (fun b o hb e=>eb b o hb e) f0 f1 f3 f4 f5⟩
 self:=fun _ _ _ _ _ st h=>wpAny_pyIter_listiter st h
theorem ϱV {P:Program}{w:World}{K:PySem.W.Frag}{tg:Expr} (it:Addr) (lo:Int) (n:Nat):Turn P w K tg (Itr lo n) [it] it (fun i h=>IsRangeIter h it (lo+(i:Nat)*1) ((n:Int)-(i:Nat)) 1) where
 mem:=by simp
 obj:=fun i h st b hb=>by
  have e:b=it:=by simpa using hb
  subst e
  exact⟨_,st,fun v z=>by
   have z':Data.fields _=Data.cell v:=z
   cases z'⟩
 keep:=fun i h h' st k=>k it (by simp) _ st
 item:=by
  intro X hP hw hK hc i pins s σ H E I hf st hg
  subst hP hw hK
  obtain⟨f0,f1,f2,f3,f4,f5⟩:=hf it (by simp)
  have W:=Walks.range (prog:=X.prog) (w:=X.w) (I.ok.hd hc) it lo 1 n
  refine W.item i s _ _ hg st fun v h' tk hv st' kk=>?_
  obtain⟨t,rfl⟩:=hv
  have I1:Inv X pins σ H { s with heap:=h',toks:=tk }:=I.turned (fun b o hb e=>kk b o (by simpa using hb) e) f0 f1 f3 f4 f5
  refine⟨_,rfl,ϲ3 (s:={ s with heap:=h',toks:=tk }) (n:="range_iterator") st' rfl rfl (by decide) ⟨.int (lo+i),H,I1,⟨t,?_⟩,⟨rfl,rfl⟩,st',fun b hb=>(hf b hb).1⟩⟩
  rw[Int.mul_one]
 done:=by
  intro X hP hw hK hc i pins s σ H E I hf st hg
  subst hP hw hK
  obtain⟨f0,f1,f2,f3,f4,f5⟩:=hf it (by simp)
  exact wpAny_pyNext_range_end (I.ok.hd hc) st (by have:n≤i:=hg;omega) fun h' eb=>⟨rfl,I.turned (t':=s.toks) (fun b o hb e=>eb b o hb e) f0 f1 f3 f4 f5⟩
 self:=fun _ _ _ _ _ st h=>wpAny_pyIter_rangeiter st h
end L2
namespace L2
open PySem PySem.Spec PyProof.Rows
section
variable {X:Cx}{tg:Expr}
def ϕZ (K:PySem.W.Frag) (tl:TE):TI:=fun σ H R=>tl σ H fun x H1=>∃a,x=.ref a∧(∃ xs,SqL K H1 a xs)∧R (Itl K a) H1
theorem ϑT {l:Expr}{tl:TE} (hl:PE X l tl):PI X tg l (ϕZ X.K tl):=by
 intro pins s σ H R I h
 refine thn (hl pins s σ H _ I h) fun v s1 ⟨x,H1,I1,r1,q1⟩=>?_
 obtain⟨a,e,⟨xs,hq⟩,q⟩:=q1
 subst e
 cases r1
 obtain⟨its,rv,p,hz⟩:=I1.list hq
 refine wpAny_pyIter_list p.isList ?_
 refine⟨s1.heap.objs.size,[s1.heap.objs.size],_,_,H1,rfl,I1.kept (t':=s1.toks) fun b o e=>Heap.get?_push_of_some _ e,ϵz a _,⟨_,Heap.get?_push_size _ rfl,rfl,rfl⟩,fun b hb=>?_,q⟩
 have e:b=s1.heap.objs.size:=by simpa using hb
 subst e
 exact I1.fpOk (Nat.le_refl _) (I1.hok.fresh (Nat.le_refl _))
theorem ϵ6 {pins:List (Addr×Obj)}{σ:St}{H:Hp}{s:Shared}{R:It→Hp→Prop}{E:Value→Shared→Prop}{lo hi:Int}{t u v:Tok}{tk:Nat} (I:Inv X pins σ H s) (h1:-(2 ^ 62)≤lo) (h2:lo < 2 ^ 62) (h3:-(2 ^ 62)≤hi) (h4:hi < 2 ^ 62)
  (q:R (Itr lo (hi-lo).toNat) H):wpAny (model X.prog X.w) X.A (pyIter (.ref s.heap.objs.size)) (PIE X pins σ tg R) E { s with heap:=s.heap.push { cls:=.type "range",data:=.fields #[.int lo t,.int hi u,.int 1 v] },toks:=tk }:=by
 refine wpAny_pyIter_range (IsRange.new ..) (small_one h1 h2 h3 h4) ?_
 have I1:Inv X pins σ H { s with heap:=s.heap.push { cls:=.type "range",data:=.fields #[.int lo t,.int hi u,.int 1 v] },toks:=tk }:=I.kept fun b o e=>Heap.get?_push_of_some _ e
 refine⟨(s.heap.push { cls:=.type "range",data:=.fields #[.int lo t,.int hi u,.int 1 v] }).objs.size,[(s.heap.push { cls:=.type "range",data:=.fields #[.int lo t,.int hi u,.int 1 v] }).objs.size],_,_,H,rfl,
  I1.kept (t':=tk) fun b o e=>Heap.get?_push_of_some _ e,ϱV _ lo (hi-lo).toNat,?_,fun b hb=>?_,q⟩
 ·have e1:lo+((0:Nat):Int)*1=lo:=by simp
  have e2:(((hi-lo).toNat:Nat):Int)-((0:Nat):Int)=Builtin.Range.rangeSize lo hi 1:=by rw[rangeSize_one];split<;>omega
  show IsRangeIter _ _ (lo+((0:Nat):Int)*1) ((((hi-lo).toNat:Nat):Int)-((0:Nat):Int)) 1
  rw[e1,e2]
  exact Heap.get?_push_size _ rfl
 ·have e:b=(s.heap.push { cls:=.type "range",data:=.fields #[.int lo t,.int hi u,.int 1 v] }).objs.size:=by simpa using hb
  subst e
  exact I1.fpOk (Nat.le_refl _) (I1.hok.fresh (Nat.le_refl _))
def iRng2 (ta:TA):TI:=fun σ H R=>ta σ H fun vs H1=>∃i j:Int,vs=[.int i,.int j]∧(-(2 ^ 62)≤i∧i < 2 ^ 62∧-(2 ^ 62)≤j∧j < 2 ^ 62)∧R (Itr i (j-i).toNat) H1
theorem ϱ9 {a b:Expr}{ta:TA}{p pos:Pos} (hg:Gl X "range") (hm:X.mg "range"=none) (ha:PA X [a,b] ta) (hs:starEach [a,b] X.env=[(false,eval a X.env),(false,eval b X.env)]:=by rfl) (hs2:starEach [b] X.env=[(false,eval b X.env)]:=by rfl) :
  PI X tg (.Call (.Name "range" p) [a,b] [] pos) (iRng2 ta):=by
 intro pins s σ H R I h
 refine Call_ (ϕ5 I hg hm boot_range (PyProof.Rows.callWith_type1 (thn (ha pos pins s σ H _ I h) fun us s1 ⟨vs,H1,I1,r1,q1⟩=>?_) (by rw[hs,hs2]) (by rw[hs2];rfl)))
 obtain⟨i,j,e,⟨q1,q2,q3,q4⟩,q⟩:=q1
 subst e
 cases r1 with
 |cons r rr=>
  cases rr with
  |cons r' rr=>
   cases rr
   obtain⟨t,rfl⟩:=r
   obtain⟨t',rfl⟩:=r'
   exact call_range_2 (ϵ6 I1 q1 q2 q3 q4 q)
def tFor (wi:TI) (g:TG) (tb:TS):TS:=fun D σ H=>wi σ H fun J H1=>∃W:Nat→Nat→St→Hp→Prop,(∃ m,W 0 m σ H1)∧∀i m σ H,W i m σ H →
 (J.stop i H∧D.nx σ H)∨(J.go i H∧∃N:St→Hp→Prop,(∀ σ' H',N σ' H'→∃m',m' < m∧W (i+1) m' σ' H')∧∀x H',J.yld i H x H'→g x σ H' fun σ2 H2=>tb { D with nx:=N,ct:=N,bk:=D.nx } σ2 H2)
def ϱa (fp:List Addr) (h:Heap):List (Addr×Obj):=fp.filterMap fun b=>(h.get? b).map fun o=>(b,o)
theorem ϕl {fp:List Addr}{h:Heap}{b:Addr}{o:Obj} (hb:b∈fp) (e:h.get? b=some o):(b,o)∈ϱa fp h:=List.mem_filterMap.mpr ⟨b,hb,by rw[e];rfl⟩
theorem ϵp {fp:List Addr}{h:Heap}{p:Addr×Obj} (hp:p∈ϱa fp h):p.1∈fp∧h.get? p.1=some p.2:=by
 obtain⟨b,hb,e⟩:=List.mem_filterMap.mp hp
 cases q:h.get? b with
 |none=>rw[q] at e;cases e
 |some o=>
  rw[q] at e
  have e':(b,o)=p:=Option.some.inj e
  subst e'
  exact⟨hb,q⟩
theorem Inv.pinned {pins:List (Addr×Obj)}{σ:St}{H:Hp}{s:Shared}{fp:List Addr} (I:Inv X pins σ H s) (hf:∀b∈fp,FpOk X pins H b) (ho:∀b∈fp,∃o,s.heap.get? b=some o∧∀v,o.data≠.cell v):Inv X (pins++ϱa fp s.heap) σ H s:=
 I.pins_of fun p hp=>(List.mem_append.mp hp).elim (fun z=>I.pin p (List.mem_append_right _ z)) fun z=>by
  obtain⟨hb,e⟩:=ϵp z
  obtain⟨f0,f1,f2,_⟩:=hf p.1 hb
  obtain⟨o,e',d⟩:=ho p.1 hb
  rw[e] at e';cases e'
  exact⟨e,f0,f1,f2,d⟩
theorem Inv.unpinned {pins pl:List (Addr×Obj)}{σ:St}{H:Hp}{s:Shared} (I:Inv X (pins++pl) σ H s):Inv X pins σ H s:=I.pins_of fun p hp=>I.pin p (List.mem_append_right _ (List.mem_append_left _ hp))
theorem ϑI {iter:Expr}{body:List Stmt}{wi:TI}{g:TG}{tb:TS}{pos:Pos} (hp:PassesOwn (model X.prog X.w) X.A X.env X.xe) (hc:X.calm=true) (hi:PI X tg iter wi) (hg:PG X tg g) (hb:PSs X body tb)
  (hs:∀x,foldedSetIterable iter X.env x=pure x:=by intro _;rfl):PS X (.For tg iter body [] pos) (tFor wi g tb):=by
 intro pins s σ H D I h
 refine wpAny_For (thn (hi pins s σ H _ I h) fun v s1 h1=>thn h1 fun itv s2 h2=>?_) hs
 obtain⟨it,fp,tn,J,H2,e,I2,T,st2,f2,W,⟨m0,w0⟩,turn⟩:=h2
 subst e
 have stat:∀{H':Hp},(∀ b∈fp,H' b=none)→∀b∈fp,FpOk X pins H' b:=fun hn b hb=>⟨hn b hb,(f2 b hb).2⟩
 refine codeAny_forLoop_any (fun n s'=>∃i σ' H',Inv X pins σ' H' s'∧tn i s'.heap∧(∀ b∈fp,H' b=none)∧W i n σ' H') ?_ m0 ⟨0,σ,H2,I2,st2,fun b hb=>(f2 b hb).1,w0⟩
 rintro n s3 ⟨i,σ3,H3,I3,st3,fr3,w3⟩
 rcases turn i n σ3 H3 w3 with⟨stop,qn⟩|⟨go,N,hN,step⟩
 ·refine wpAny_passesOwn hp (thn (T.done X rfl rfl rfl hc i pins s3 σ3 H3 X.xe I3 (stat fr3) st3 stop) fun r s4 ⟨hr,I4⟩=>?_)
  subst hr
  exact wpAny_execs_nil ⟨σ3,H3,I4,qn⟩
 ·refine wpAny_passesOwn hp (thn (T.item X rfl rfl rfl hc i pins s3 σ3 H3 X.xe I3 (stat fr3) st3 go) fun r s4 ⟨u,hr,h4⟩=>?_)
  subst hr
  refine wpAny_passesOwn hp (thn h4 fun _ s5 ⟨x,H5,I5,r5,y5,st5,fr5⟩=>?_)
  have I5':=I5.pinned (stat fr5) (T.obj _ _ st5)
  refine wpAny_passesOwn hp (thn (hg _ s5 σ3 H5 x u _ I5' r5 (step x H5 y5)) fun _ s6 ⟨σ6,H6,I6,q6⟩=>?_)
  refine wpAny_passesOwn hp (thn (hb _ s6 σ6 H6 _ I6 q6) fun f s7 q7=>?_)
  have again:∀{σ7:St}{H7:Hp},Inv X (pins++ϱa fp s5.heap) σ7 H7 s7→N σ7 H7→∃m,m < n∧∃i σ' H',Inv X pins σ' H' s7∧tn i s7.heap∧(∀ b∈fp,H' b=none)∧W i m σ' H':=fun {σ7 H7} I7 n7=>by
   obtain⟨m',hm,w7⟩:=hN σ7 H7 n7
   refine⟨m',hm,i+1,σ7,H7,I7.unpinned,T.keep _ _ _ st5 fun b hb o e=>(I7.pin (b,o) (List.mem_append_right _ (List.mem_append_right _ (ϕl hb e)))).1,fun b hb=>?_,w7⟩
   obtain⟨o,e,d⟩:=T.obj _ _ st5 b hb
   exact(I7.pin (b,o) (List.mem_append_right _ (List.mem_append_right _ (ϕl hb e)))).2.1
  cases f with
  |next=>obtain⟨σ7,H7,I7,n7⟩:=q7;exact again I7 n7
  |cont=>obtain⟨σ7,H7,I7,n7⟩:=q7;exact again I7 n7
  |brk=>obtain⟨σ7,H7,I7,q7⟩:=q7;exact⟨σ7,H7,I7.unpinned,q7⟩
  |ret v=>obtain⟨x7,σ7,H7,I7,r7,q7⟩:=q7;exact⟨x7,σ7,H7,I7.unpinned,r7,q7⟩
end
theorem ϑ6 {K:PySem.W.Frag}{a:Addr}{xs:List V}{g:TG}{tb:TS}{D:Ends}{σ:St}{H:Hp} (Pv:Nat→St→Hp→Prop) (h0:Pv 0 σ H) (hl:∀i σ H,i≤xs.length→Pv i σ H→SqL K H a xs)
  (hs:∀i x σ H,xs[i]?=some x→Pv i σ H→g x σ H fun σ2 H2=>tb { D with nx:=Pv (i+1),ct:=Pv (i+1),bk:=D.nx } σ2 H2) (hd:∀σ H,Pv xs.length σ H→D.nx σ H) :
  ∃W:Nat→Nat→St→Hp→Prop,(∃ m,W 0 m σ H)∧∀i m σ H,W i m σ H →
   ((Itl K a).stop i H∧D.nx σ H)∨((Itl K a).go i H∧∃N:St→Hp→Prop,(∀ σ' H',N σ' H'→∃m',m' < m∧W (i+1) m' σ' H')∧∀x H',(Itl K a).yld i H x H'→g x σ H' fun σ2 H2=>tb { D with nx:=N,ct:=N,bk:=D.nx } σ2 H2):=by
 refine⟨fun i m σ H=>m=xs.length-i∧i≤xs.length∧Pv i σ H,⟨xs.length,by simp,Nat.zero_le _,h0⟩,?_⟩
 rintro i m σ H ⟨rfl,hi,p⟩
 have q:=hl i σ H hi p
 by_cases hlt:i < xs.length
 ·refine .inr ⟨⟨xs,xs[i],q,by simp[hlt]⟩,Pv (i+1),fun σ' H' p'=>⟨xs.length-(i+1),by omega,rfl,hlt,p'⟩,fun x H' y=>?_⟩
  obtain⟨e,y⟩:=y
  subst e
  exact hs i x σ _ (y xs q) p
 ·have e:i=xs.length:=by omega
  subst e
  exact .inl ⟨⟨xs,q,Nat.le_refl _⟩,hd σ H p⟩
theorem ϵo {lo:Int}{n:Nat}{g:TG}{tb:TS}{D:Ends}{σ:St}{H:Hp} (Pv:Nat→St→Hp→Prop) (h0:Pv 0 σ H)
  (hs:∀i σ H,i < n→Pv i σ H→g (.int (lo+i)) σ H fun σ2 H2=>tb { D with nx:=Pv (i+1),ct:=Pv (i+1),bk:=D.nx } σ2 H2) (hd:∀σ H,Pv n σ H→D.nx σ H) :
  ∃W:Nat→Nat→St→Hp→Prop,(∃ m,W 0 m σ H)∧∀i m σ H,W i m σ H →
   ((Itr lo n).stop i H∧D.nx σ H)∨((Itr lo n).go i H∧∃N:St→Hp→Prop,(∀ σ' H',N σ' H'→∃m',m' < m∧W (i+1) m' σ' H')∧∀x H',(Itr lo n).yld i H x H'→g x σ H' fun σ2 H2=>tb { D with nx:=N,ct:=N,bk:=D.nx } σ2 H2):=by
 refine⟨fun i m σ H=>m=n-i∧i≤n∧Pv i σ H,⟨n,by simp,Nat.zero_le _,h0⟩,?_⟩
 rintro i m σ H ⟨rfl,hi,p⟩
 by_cases hlt:i < n
 ·refine .inr ⟨hlt,Pv (i+1),fun σ' H' p'=>⟨n-(i+1),by omega,rfl,hlt,p'⟩,fun x H' y=>?_⟩
  obtain⟨e,y⟩:=y
  subst e y
  exact hs i σ _ hlt p
 ·have e:i=n:=by omega
  subst e
  exact .inl ⟨Nat.le_refl _,hd σ H p⟩
end L2
namespace L2
open PySem PySem.Spec PyProof.Rows
abbrev R2:=V→V→Hp→VK→Prop
def OpR (X:Cx) (f:Value→Value→Sem Value) (r:R2):Prop:=
 ∀(pins:List (Addr×Obj)) (s:Shared) (σ:St) (H:Hp) (x y:V) (v u:Value) (Q:VK),Inv X pins σ H s→RelV x v→RelV y u→r x y H Q →
  wpAny (model X.prog X.w) X.A (f v u) (EP X pins σ Q) X.xe s
def ϕ_ (X:Cx) (f:Value) (r:List V→Hp→VK→Prop):Prop:=
 ∀(pins:List (Addr×Obj)) (s:Shared) (σ:St) (H:Hp) (xs:List V) (us:List Value) (Q:VK),Inv X pins σ H s→Vals xs us→r xs H Q →
  wpAny (model X.prog X.w) X.A (call f us) (EP X pins σ Q) X.xe s
def tOp (r:R2) (ta tb:TE):TE:=fun σ H Q=>ta σ H fun x H1=>tb σ H1 fun y H2=>r x y H2 Q
def rI (C:Int→Int→Prop) (g:Int→Int→V):R2:=fun x y H Q=>∃i j,x=.int i∧y=.int j∧C i j∧Q (g i j) H
def rI0 (g:Int→Int→V):R2:=fun x y H Q=>∃i j,x=.int i∧y=.int j∧Q (g i j) H
section
variable {X:Cx}{a b c:Expr}{ta tb tc:TE}{pos:Pos}
theorem binT (ha:PE X a ta) (hb:PE X b tb) {pins:List (Addr×Obj)}{s:Shared}{σ:St}{H:Hp}{R:V→V→Hp→Prop} (I:Inv X pins σ H s)
  (h:ta σ H fun x H1=>tb σ H1 fun y H2=>R x y H2) {Q:Value→Shared→Prop}{f:Value→Value→Sem Value}
  (hf:∀v u s2 x y H2,Inv X pins σ H2 s2→RelV x v→RelV y u→R x y H2→wpAny (model X.prog X.w) X.A (f v u) Q X.xe s2) :
  wpAny (model X.prog X.w) X.A (eval a X.env) (fun v s₁=>wpAny (model X.prog X.w) X.A (eval b X.env) (fun u s₂=>wpAny (model X.prog X.w) X.A (f v u) Q X.xe s₂) X.xe s₁) X.xe s:=by
 refine thn (ha pins s σ H _ I h) fun v s1 ⟨x,H1,I1,r1,q1⟩=>?_
 refine thn (hb pins s1 σ H1 _ I1 q1) fun u s2 ⟨y,H2,I2,r2,q2⟩=>?_
 exact hf v u s2 x y H2 I2 r1 r2 q2
theorem ϑn {op:Operator}{r:R2} (ho:OpR X (binaryOp op) r) (ha:PE X a ta) (hb:PE X b tb):PE X (.BinOp a op b pos) (tOp r ta tb):=by
 intro pins s σ H Q I h
 exact wpAny_BinOp (binT ha hb I h fun v u s2 x y H2 I2 rx ry q=>ho pins s2 σ H2 x y v u Q I2 rx ry q)
theorem opI {f:Value→Value→Sem Value}{C:Int→Int→Prop}{g:Int→Int→Int}
  (rule:∀(i j:Int) (t u:Tok) (s:Shared) (Q:Value→Shared→Prop) (E:Value→Shared→Prop),C i j→Q (.int (g i j) s.toks) { s with toks:=s.toks+1 }→wpAny (model X.prog X.w) X.A (f (.int i t) (.int j u)) Q E s) :
  OpR X f (rI C fun i j=>.int (g i j)):=by
 intro pins s σ H x y v u Q I rx ry h
 obtain⟨i,j,rfl,rfl,hc,q⟩:=h
 obtain⟨t,rfl⟩:=rx
 obtain⟨t',rfl⟩:=ry
 exact rule i j t t' s _ _ hc ⟨.int (g i j),H,I.tok _,⟨_,rfl⟩,q⟩
theorem opI0 {f:Value→Value→Sem Value}{g:Int→Int→Int}
  (rule:∀(i j:Int) (t u:Tok) (s:Shared) (Q:Value→Shared→Prop) (E:Value→Shared→Prop),Q (.int (g i j) s.toks) { s with toks:=s.toks+1 }→wpAny (model X.prog X.w) X.A (f (.int i t) (.int j u)) Q E s) :
  OpR X f (rI0 fun i j=>.int (g i j)):=by
 intro pins s σ H x y v u Q I rx ry h
 obtain⟨i,j,rfl,rfl,q⟩:=h
 obtain⟨t,rfl⟩:=rx
 obtain⟨t',rfl⟩:=ry
 exact rule i j t t' s _ _ ⟨.int (g i j),H,I.tok _,⟨_,rfl⟩,q⟩
theorem opB0 {f:Value→Value→Sem Value}{g:Int→Int→Bool}
  (rule:∀(i j:Int) (t u:Tok) (s:Shared) (Q:Value→Shared→Prop) (E:Value→Shared→Prop),Q (.bool (g i j)) s→wpAny (model X.prog X.w) X.A (f (.int i t) (.int j u)) Q E s) :
  OpR X f (rI0 fun i j=>.bl (g i j)):=by
 intro pins s σ H x y v u Q I rx ry h
 obtain⟨i,j,rfl,rfl,q⟩:=h
 obtain⟨t,rfl⟩:=rx
 obtain⟨t',rfl⟩:=ry
 exact rule i j t t' s _ _ ⟨.bl (g i j),H,I,rfl,q⟩
def CDiv (i j:Int):Prop:=0 < j∧j < 1073741824
def CMul (i j:Int):Prop:=(-(2 ^ 64) < i∧i < 2 ^ 64)∨(-(2 ^ 64) < j∧j < 2 ^ 64)
theorem CMul.ok {i j:Int} (h:CMul i j):IntMulOk i j:=by
 rcases h with⟨h1,h2⟩|⟨h1,h2⟩
 ·exact .of_left (intBits_le_64 h1 h2)
 ·exact .of_right (intBits_le_64 h1 h2)
theorem ϱE:OpR X (binaryOp .Add) (rI0 fun i j=>.int (i+j)):=opI0 fun _ _ _ _ _ _ _ q=>add_int q
theorem ϰ5:OpR X (binaryOp .Mult) (rI CMul fun i j=>.int (i*j)):=opI fun _ _ _ _ _ _ _ hc q=>mul_int q hc.ok
theorem ϰg:OpR X (binaryOp .FloorDiv) (rI CDiv fun i j=>.int (i / j)):=opI fun i j _ _ _ _ _ hc q=>by
 have h1:(0:Int) < j:=hc.1
 have h2:j < 1073741824:=hc.2
 exact floordiv_int (by omega) (by rw[Int.fdiv_eq_ediv_of_nonneg i (by omega)];exact q) (.inl (PyProof.noPylong_small (by omega)))
theorem ϕa:OpR X (binaryOp .Mod) (rI (fun _ j=>0 < j) fun i j=>.int (i % j)):=opI fun i j _ _ _ _ _ hc q=>by
 have h1:(0:Int) < j:=hc
 exact mod_int' (by omega) (by rw[Int.fmod_eq_emod_of_nonneg i (by omega)];exact q)
end
def scal:V→V→Bool
 |.non,.non=>true|.non,.int _=>true|.int _,.non=>true|.non,.bl _=>true|.bl _,.non=>true|.non,.str _=>true|.str _,.non=>true
 |.int _,.int _=>true|.bl _,.bl _=>true|.str _,.str _=>true|.byt _,.byt _=>true
 |.int _,.str _=>true|.str _,.int _=>true|.bl _,.str _=>true|.str _,.bl _=>true
 |_,_=>false
def rEq:R2:=fun x y H Q=>scal x y=true∧Q (.bl (decide (x=y))) H
def rNe:R2:=fun x y H Q=>scal x y=true∧Q (.bl (!decide (x=y))) H
theorem ϱ_ {i j:Int}:decide (V.int i=V.int j)=(i == j):=by
 rw[Bool.eq_iff_iff]
 simp
theorem ϲd {i j:Bool}:decide (V.bl i=V.bl j)=(i == j):=by
 rw[Bool.eq_iff_iff]
 simp
theorem ϵd {i j:Str}:decide (V.str i=V.str j)=(i == j):=by
 rw[Bool.eq_iff_iff]
 simp
theorem ϵh {i j:Array UInt8}:decide (V.byt i=V.byt j)=(i.toList == j.toList):=by
 rw[Bool.eq_iff_iff]
 cases i
 cases j
 simp
section
variable {X:Cx}{a b c:Expr}{ta tb tc:TE}{pos:Pos}
theorem ϖT {pins:List (Addr×Obj)}{σ:St}{H:Hp}{s:Shared}{Q:VK}{k k':Bool} (I:Inv X pins σ H s) (q:Q (.bl k) H) (e:k=k'):EP X pins σ Q (.bool k') s:=by
 subst e
 exact⟨.bl k,H,I,rfl,q⟩
theorem op_eq:OpR X (compareOp .Eq) rEq:=by
 intro pins s σ H x y v u Q I rx ry h
 obtain⟨hs,q⟩:=h
 cases x with
 |non=>
  cases rx
  cases y with
  |non=>cases ry;exact PySem.EqNone.eq_none_none (ϖT I q (by simp))
  |bl j=>cases ry;exact PySem.EqNone.eq_none_bool (ϖT I q (by simp))
  |int j=>obtain⟨t',rfl⟩:=ry;exact PySem.EqNone.eq_none_int (ϖT I q (by simp))
  |str j=>obtain⟨t',rfl⟩:=ry;exact PySem.EqNone.eq_none_str (ϖT I q (by simp))
  |_=>exact absurd (show false=true from hs) Bool.false_ne_true
 |bl i=>
  cases rx
  cases y with
  |non=>cases ry;exact PySem.EqNone.eq_bool_none (ϖT I q (by simp))
  |bl j=>cases ry;exact eq_bool (ϖT I q ϲd)
  |str j=>obtain⟨t',rfl⟩:=ry;exact PySem.EqMixed.eq_bool_str (ϖT I q (by simp))
  |_=>exact absurd (show false=true from hs) Bool.false_ne_true
 |int i=>
  obtain⟨t,rfl⟩:=rx
  cases y with
  |non=>cases ry;exact PySem.EqNone.eq_int_none (ϖT I q (by simp))
  |int j=>obtain⟨t',rfl⟩:=ry;exact eq_int (ϖT I q ϱ_)
  |str j=>obtain⟨t',rfl⟩:=ry;exact PySem.EqMixed.eq_int_str (ϖT I q (by simp))
  |_=>exact absurd (show false=true from hs) Bool.false_ne_true
 |str i=>
  obtain⟨t,rfl⟩:=rx
  cases y with
  |non=>cases ry;exact PySem.EqNone.eq_str_none (ϖT I q (by simp))
  |bl j=>cases ry;exact PySem.EqMixed.eq_str_bool (ϖT I q (by simp))
  |int j=>obtain⟨t',rfl⟩:=ry;exact PySem.EqMixed.eq_str_int (ϖT I q (by simp))
  |str j=>obtain⟨t',rfl⟩:=ry;exact eq_str (ϖT I q ϵd)
  |_=>exact absurd (show false=true from hs) Bool.false_ne_true
 |byt i=>
  obtain⟨t,rfl⟩:=rx
  cases y with
  |byt j=>obtain⟨t',rfl⟩:=ry;exact PySem.W.eq_bytes (ϖT I q ϵh)
  |_=>exact absurd (show false=true from hs) Bool.false_ne_true
 |_=>cases y<;>exact absurd (show false=true from hs) Bool.false_ne_true
theorem op_ne:OpR X (compareOp .NotEq) rNe:=by
 intro pins s σ H x y v u Q I rx ry h
 obtain⟨hs,q⟩:=h
 cases x with
 |non=>
  cases rx
  cases y with
  |non=>cases ry;exact PySem.EqNone.ne_none_none (ϖT I q (by simp))
  |bl j=>cases ry;exact PySem.EqNone.ne_none_bool (ϖT I q (by simp))
  |int j=>obtain⟨t',rfl⟩:=ry;exact PySem.EqNone.ne_none_int (ϖT I q (by simp))
  |str j=>obtain⟨t',rfl⟩:=ry;exact PySem.EqNone.ne_none_str (ϖT I q (by simp))
  |_=>exact absurd (show false=true from hs) Bool.false_ne_true
 |bl i=>
  cases rx
  cases y with
  |non=>cases ry;exact PySem.EqNone.ne_bool_none (ϖT I q (by simp))
  |bl j=>cases ry;exact ne_bool (ϖT I q (congrArg not ϲd))
  |str j=>obtain⟨t',rfl⟩:=ry;exact PySem.EqMixed.ne_bool_str (ϖT I q (by simp))
  |_=>exact absurd (show false=true from hs) Bool.false_ne_true
 |int i=>
  obtain⟨t,rfl⟩:=rx
  cases y with
  |non=>cases ry;exact PySem.EqNone.ne_int_none (ϖT I q (by simp))
  |int j=>obtain⟨t',rfl⟩:=ry;exact ne_int (ϖT I q (congrArg not ϱ_))
  |str j=>obtain⟨t',rfl⟩:=ry;exact PySem.EqMixed.ne_int_str (ϖT I q (by simp))
  |_=>exact absurd (show false=true from hs) Bool.false_ne_true
 |str i=>
  obtain⟨t,rfl⟩:=rx
  cases y with
  |non=>cases ry;exact PySem.EqNone.ne_str_none (ϖT I q (by simp))
  |bl j=>cases ry;exact PySem.EqMixed.ne_str_bool (ϖT I q (by simp))
  |int j=>obtain⟨t',rfl⟩:=ry;exact PySem.EqMixed.ne_str_int (ϖT I q (by simp))
  |str j=>obtain⟨t',rfl⟩:=ry;exact ne_str (ϖT I q (congrArg not ϵd))
  |_=>exact absurd (show false=true from hs) Bool.false_ne_true
 |byt i=>
  obtain⟨t,rfl⟩:=rx
  cases y with
  |byt j=>obtain⟨t',rfl⟩:=ry;exact PySem.W.ne_bytes (ϖT I q (congrArg not ϵh))
  |_=>exact absurd (show false=true from hs) Bool.false_ne_true
 |_=>cases y<;>exact absurd (show false=true from hs) Bool.false_ne_true
theorem op_lt:OpR X (compareOp .Lt) (rI0 fun i j=>.bl (decide (i < j))):=opB0 fun _ _ _ _ _ _ _ q=>lt_int q
theorem op_le:OpR X (compareOp .LtE) (rI0 fun i j=>.bl (decide (i≤j))):=opB0 fun _ _ _ _ _ _ _ q=>le_int q
theorem ϲD:OpR X (compareOp .Gt) (rI0 fun i j=>.bl (decide (j < i))):=opB0 fun _ _ _ _ _ _ _ q=>gt_int q
theorem ϰs:OpR X (compareOp .Is) (fun x y H Q=>y=.non∧Q (.bl (decide (x=.non))) H):=by
 intro pins s σ H x y v u Q I rx ry h
 obtain⟨rfl,q⟩:=h
 cases ry
 refine is_none_gen (ϖT I q ?_)
 cases x<;>first
  |(cases rx;rfl)
  |(obtain⟨t,rfl⟩:=rx;rfl)
theorem ϲ0:OpR X (compareOp .IsNot) (fun x y H Q=>y=.non∧Q (.bl (!decide (x=.non))) H):=by
 intro pins s σ H x y v u Q I rx ry h
 obtain⟨rfl,q⟩:=h
 cases ry
 refine isnot_none_gen (ϖT I q ?_)
 cases x<;>first
  |(cases rx;rfl)
  |(obtain⟨t,rfl⟩:=rx;rfl)
theorem ϑH (b:Expr) {op:CmpOp} (h:op≠.In:=by decide) (h2:op≠.NotIn:=by decide):behindInMarks op b=false:=by
 have e1:(op == CmpOp.In)=false:=by cases op<;>first|rfl|exact absurd rfl h
 have e2:(op == CmpOp.NotIn)=false:=by cases op<;>first|rfl|exact absurd rfl h2
 cases b<;>simp[behindInMarks,e1,e2]
theorem ϱf {op:CmpOp}{r:R2} (ho:OpR X (compareOp op) r) (ha:PE X a ta) (hb:PE X b tb) (hm:behindInMarks op b=false):PE X (.Compare a [op] [b] pos) (tOp r ta tb):=by
 intro pins s σ H Q I h
 exact wpAny_Compare1 (binT ha hb I h fun v u s2 x y H2 I2 rx ry q=>ho pins s2 σ H2 x y v u Q I2 rx ry q) hm
def tTest (t:TE):TT:=fun σ H Q=>t σ H fun x H'=>∃k,x=.bl k∧Q k H'
theorem ϑp {op:CmpOp}{r:R2} (ho:OpR X (compareOp op) r) (ha:PE X a ta) (hb:PE X b tb) (hm:behindInMarks op b=false):PT X (.Compare a [op] [b] pos) (tTest (tOp r ta tb)):=by
 intro pins s σ H Q I h
 refine wpAny_isTrue_Compare1 (thn (ha pins s σ H _ I h) fun v s1 ⟨x,H1,I1,r1,q1⟩=>thn (hb pins s1 σ H1 _ I1 q1) fun u s2 ⟨y,H2,I2,r2,q2⟩=>
  thn (ho pins s2 σ H2 x y v u _ I2 r1 r2 q2) fun c s3 ⟨z,H3,I3,r3,k,e,q3⟩=>?_) hm
 subst e
 cases r3
 exact wpAny_truthy_bool ⟨H3,I3,q3⟩
theorem ϱz:(sizeLine:Nat) < 2 ^ 63:=by rw[sizeLine_eq];decide
theorem ϕk:OpR X (binaryOp .Add) (fun x y H Q=>∃i j,x=.str i∧y=.str j∧i.length+j.length≤sizeLine∧Q (.str (i++j)) H):=by
 intro pins s σ H x y v u Q I rx ry h
 obtain⟨i,j,rfl,rfl,hz,q⟩:=h
 obtain⟨t,rfl⟩:=rx
 obtain⟨t',rfl⟩:=ry
 exact add_str (fun t' tk=>⟨.str (i++j),H,I.tok _,⟨_,rfl⟩,q⟩) hz
theorem ϲA {x:V}{us:List Value} (r:Vals [x] us):∃u,us=[u]∧RelV x u:=by
 cases r with
 |cons r1 r2=>cases r2;exact⟨_,rfl,r1⟩
theorem ϵy {x y:V}{us:List Value} (r:Vals [x,y] us):∃u w',us=[u,w']∧RelV x u∧RelV y w':=by
 cases r with
 |cons r1 r2=>
  cases r2 with
  |cons r3 r4=>cases r4;exact⟨_,_,rfl,r1,r3⟩
theorem ϰ_ (hc:X.calm=true):ϕ_ X (.builtin "max") (fun xs H Q=>∃i j,xs=[.int i,.int j]∧Q (.int (if j > i then j else i)) H):=by
 intro pins s σ H xs us Q I r h
 obtain⟨i,j,rfl,q⟩:=h
 obtain⟨u,w',rfl,⟨t,rfl⟩,⟨t',rfl⟩⟩:=ϵy r
 refine max_two_ints (I.ok.hd hc) fun h' tk k=>⟨_,H,I.kept k,?_,q⟩
 by_cases hj:j > i
 ·rw[if_pos hj,if_pos hj];exact⟨_,rfl⟩
 ·rw[if_neg hj,if_neg hj];exact⟨_,rfl⟩
theorem ϵi (hc:X.calm=true):ϕ_ X (.builtin "min") (fun xs H Q=>∃i j,xs=[.int i,.int j]∧Q (.int (if j < i then j else i)) H):=by
 intro pins s σ H xs us Q I r h
 obtain⟨i,j,rfl,q⟩:=h
 obtain⟨u,w',rfl,⟨t,rfl⟩,⟨t',rfl⟩⟩:=ϵy r
 refine min_two_ints (I.ok.hd hc) fun h' tk k=>⟨_,H,I.kept k,?_,q⟩
 by_cases hj:j < i
 ·rw[if_pos hj,if_pos hj];exact⟨_,rfl⟩
 ·rw[if_neg hj,if_neg hj];exact⟨_,rfl⟩
end
end L2
namespace L2
open PySem PySem.Spec PyProof.Rows
section
variable {prog:Program}{w:World}{A:Around}{E:Value→Shared→Prop}{s:Shared}{K:PySem.W.Frag}{x dx C f:Addr}{mA:Str→Option Value}{name:Str}{v:Value}
end
def putF (f:Str) (v:V):List (Str×V)→List (Str×V)
 |[]=>[(f,v)]
 |(g,x)::r=>if g=f then (g,v)::r else (g,x)::putF f v r
theorem RelO.some_of {v:V}{o:Option Value} (r:RelO (some v) o):∃u,o=some u∧RelV v u:=by
 cases o with
 |none=>exact(show False from r).elim
 |some u=>exact⟨u,rfl,r⟩
section
variable {P:Program}{w:World}{H H':Hp}{h h':Heap}{a C dx:Addr}{fs fs':List (Str×V)}
end
structure Cls (K:PySem.W.Frag) (C:Addr):Prop where
 pg:PySem.W.plainGet K C Str.empty=true
 hd:PySem.W.hasDictIn K C=true
 po:PySem.W.plainOver K C=true
 sa:PySem.W.findIn K (.ref C) "__setattr__"=some (some (.builtin "object.__setattr__"))
section
variable {X:Cx}{pins:List (Addr×Obj)}{σ:St}{H:Hp}{s:Shared}{a C dx:Addr}{fs:List (Str×V)}{f:Str}{v:V}{A:Around}{E:Value→Shared→Prop}
end
section
variable {X:Cx}{o e value:Expr}{f:Str}{pos pos' tpos:Pos}{ta tv:TE}
end
section
variable {X:Cx}{pins:List (Addr×Obj)}{σ:St}{H:Hp}{s:Shared}{A:Around}{E:Value→Shared→Prop}{Q:Value→Shared→Prop}{c:Value}{b:Bool}
inductive TyOf (K:PySem.W.Frag) (H:Hp):V→Value→Prop where
 |non:TyOf K H .non (.type "NoneType")
 |bl (x:Bool):TyOf K H (.bl x) (.type "bool")
 |int (i:Int):TyOf K H (.int i) (.type "int")
 |str (x:Str):TyOf K H (.str x) (.type "str")
 |flt (x:UInt64):TyOf K H (.flt x) (.type "float")
 |lst {a:Addr}{xs:List V} (e:H a=some (.lst xs)):TyOf K H (.ref a) (.type "list")
 |frz {a:Addr}{o:Obj}{xs:List V} (e:H a=some (.frz o (.lst xs))):TyOf K H (.ref a) (.type "list")
 |tup {a:Addr}{xs:List V} (e:H a=some (.tup xs)):TyOf K H (.ref a) (.type "tuple")
 |dK {a:Addr}{kvs:List (Key×V)} (e:H a=some (.dK kvs)):TyOf K H (.ref a) (.type "dict")
 |dT {a:Addr}{kvs:List (List Key×V)} (e:H a=some (.dT kvs)):TyOf K H (.ref a) (.type "dict")
 |ins {a C dx:Addr}{fs:List (Str×V)} (e:H a=some (.ins C dx fs)) (cl:Cls K C) (ha:PySem.W.findIn K (.ref C) "__class__"=some (some (.builtin "object.__class__")))
   (hn:PySem.W.specialIn K (.builtin "object.__class__") "__get__"=some (some (.builtin "getset_descriptor.__get__"))) (htk:PySem.W.takesIn K (.builtin "object.__class__")=some true)
   (hm:PySem.W.mroIn K C (.type "object")=some true):TyOf K H (.ref a) (.ref C)
end
end L2
namespace L2
open PySem PySem.Spec PyProof.Rows
structure Room (k:Nat) (A:Around):Prop where
 hd:A.handled=none
 dp:A.depth+3*k+5 < recursionLimit
 un:A.units+16*k+200 < cLine
theorem Room.mono {j k:Nat}{A:Around} (r:Room k A) (h:j≤k):Room j A:=⟨r.hd,by have:=r.dp;omega,by have:=r.un;omega⟩
theorem Room.deeper {k:Nat}{A:Around} (r:Room (k+1) A) (env:Env):Room k (A.deeper env):=
 ⟨r.hd,by have:=r.dp;show A.depth+1+3*k+5 < _;omega,by have:=r.un;show A.units+3+16*k+200 < _;omega⟩
theorem Room.depth {k:Nat}{A:Around} (r:Room k A):A.depth < recursionLimit:=by have:=r.dp;omega
theorem Room.units {k:Nat}{A:Around} (r:Room k A):A.units+64 < cLine:=by have:=r.un;omega
def tNil:TA:=fun _ H Q=>Q [] H
def tCons (ta:TE) (tr:TA):TA:=fun σ H Q=>ta σ H fun x H1=>tr σ H1 fun xs H2=>Q (x::xs) H2
section
variable {X:Cx}{e:Expr}{es:List Expr}{te:TE}{t:TA}{pos:Pos}
theorem ϖk:PA X [] tNil:=fun _ _ _ _ H Q I h=>Calls.spliced_nil ⟨[],H,I,.nil,h⟩
theorem ϖa (ha:PE X e te) (hr:PA X es t) (hs:starEach (e::es) X.env=(false,eval e X.env)::starEach es X.env:=by rfl):PA X (e::es) (tCons te t):=by
 intro pos pins s σ H Q I h
 rw[hs]
 show wpAny _ _ (spliced ((false,eval e X.env)::backTo pos (starEach es X.env))) _ _ s
 refine Calls.spliced_cons (thn (ha pins s σ H _ I h) fun u s1 ⟨x,H1,I1,r1,q1⟩=>?_)
 exact thn (hr pos pins s1 σ H1 _ I1 q1) fun us s2 ⟨xs,H2,I2,r2,q2⟩=>⟨x::xs,H2,I2,.cons r1 r2,q2⟩
def tTup (t:TA):TE:=fun σ H Q=>t σ H fun xs H1=>xs.length≤sizeLine∧∀p,H1 p=none→Q (.ref p) (upd H1 p (.tup xs))
def tLst (t:TA):TE:=fun σ H Q=>t σ H fun xs H1=>xs.length≤sizeLine∧∀p,H1 p=none→Q (.ref p) (upd H1 p (.lst xs))
theorem ϑb {x1} (h:PA X es t):PE X (.Tuple es x1 pos) (tTup t):=by
 intro pins s σ H Q I hq
 refine wpAny_Tuple_spliced (thn (h pos pins s σ H _ I hq) fun us s1 ⟨xs,H1,I1,r,z,q⟩=>⟨by rw[← r.length];exact z,?_⟩)
 have hf:H1 s1.heap.objs.size=none:=I1.hok.fresh (Nat.le_refl _)
 refine⟨.ref s1.heap.objs.size,upd H1 s1.heap.objs.size (.tup xs),I1.laid (t':=s1.toks) (fun b u e=>Heap.get?_push_of_some _ e) (Nat.le_refl _) ?_,rfl,q _ hf⟩
 exact⟨z,us,r,⟨_,Heap.get?_push_size _ rfl,rfl,_,rfl⟩⟩
theorem ϑz (h:PA X es t):PE X (.List es pos) (tLst t):=by
 intro pins s σ H Q I hq
 refine wpAny_List_spliced (thn (h pos pins s σ H _ I hq) fun us s1 ⟨xs,H1,I1,r,z,q⟩=>⟨by rw[← r.length];exact z,?_⟩)
 have hf:H1 s1.heap.objs.size=none:=I1.hok.fresh (Nat.le_refl _)
 refine⟨.ref s1.heap.objs.size,upd H1 s1.heap.objs.size (.lst xs),I1.laid (t':=s1.toks) (fun b u e=>Heap.get?_push_of_some _ e) (Nat.le_refl _) ?_,rfl,q _ hf⟩
 exact⟨z,us,0,r,Heap.get?_push_size _ rfl⟩
end
abbrev Sp:=List V→Hp→VK→XK→Prop
abbrev CXT:=List Env→Hp→Shared→XK→Value→Shared→Prop
structure Env0 (P:Program) (w:World) (K:PySem.W.Frag) (mg:Str→Option Value) (base:Heap) (A:Around) (outer:List Env) (s:Shared) (H:Hp):Prop where
 frames:A.frames=some outer
 mod:Mod K mg base
 bs:∀b o,base.get? b=some o→s.heap.get? b=some o∧H b=none
 bsz:base.objs.size≤s.heap.objs.size
 funs:s.heap.FunFrames base outer
 frf:∀b∈frs outer,H b=none
 hok:HOk P w H s.heap
 bare:AllBare s.gens
def CE (outer:List Env) (P:Program) (w:World) (H:Hp) (s:Shared) (Q:VK) (u:Value) (s':Shared):Prop:=
 ∃v H',s'.os=s.os∧AllBare s'.gens∧Un (frs outer) [] H H' s.heap s'.heap∧HOk P w H' s'.heap∧RelV v u∧Q v H'
def CR (CX:CXT) (outer:List Env) (P:Program) (w:World) (H:Hp) (s:Shared) (Q:VK) (E:XK) (r:Result) (s':Shared):Prop:=
 match r with
 |.ok (.ret u)=>CE outer P w H s Q u s'
 |.ok _=>False
 |.error e=>CX outer H s E e s'
structure FnOk (P:Program) (w:World) (K:PySem.W.Frag) (mg:Str→Option Value) (base:Heap) (CX:CXT) (k:Nat) (f:Addr) (fd:FuncData) (ps:List Str) (sp:Sp):Prop where
 len:∀vs H Q E,sp vs H Q E→vs.length=ps.length
 run:∀(A:Around) (outer:List Env) (s:Shared) (H:Hp) (args:Args) (us:List Value) (vs:List V) (Q:VK) (E:XK),Room k A→Env0 P w K mg base A outer s H→BindsTo s fd args (ps.zip us)→Vals vs us→sp vs H Q E →
  codeAny (model P w) A (.call (.ref f) args) (CR CX outer P w H s Q E) s
section
variable {X:Cx}{pins:List (Addr×Obj)}{σ:St}{H:Hp}{s s':Shared}
theorem Inv.env0 (I:Inv X pins σ H s):Env0 X.prog X.w X.K X.mg X.base X.A X.stack s H:=
 ⟨I.ok.frames,I.ok.mod,I.bs,Nat.le_trans I.ok.bsz I.sz,I.stack,I.stkFree,I.hok,I.bare⟩
theorem Inv.after {Q:VK}{u:Value} (I:Inv X pins σ H s) (h:CE X.stack X.prog X.w H s Q u s'):EP X pins σ Q u s':=by
 obtain⟨v,H',os,bare,un,hok,r,q⟩:=h
 obtain⟨hh,g,d,t,os'⟩:=s'
 obtain rfl:os'=s.os:=os
 exact⟨v,H',I.call (h':=hh) (g':=g) (d':=d) (t':=t) (ch:=[]) un hok bare (fun b z=>absurd z (by simp)),r,q⟩
end
def Binds (K:PySem.W.Frag) (fd:FuncData) (ps:List Str) (ds:List Value):Prop:=
 ∀(s:Shared) (us:List Value),K.In s.heap→(us++ds).length=ps.length→BindsTo s fd ⟨us,[]⟩ (ps.zip (us++ds))
theorem Binds.all {K:PySem.W.Frag}{fd:FuncData}{ps:List Str} (h:∀us:List Value,us.length=ps.length→bindArgs fd ⟨us,[]⟩=pure (ps.zip us)):Binds K fd ps []:=fun s us _ hl=>by
 rw[List.append_nil] at hl⊢
 exact .of_eq (h us hl)
def ϱC (CX:CXT) (X:Cx) (E:XK):Prop:=∀(pins:List (Addr×Obj)) (σ:St) (H:Hp) (s:Shared) (e:Value) (s':Shared),Inv X pins σ H s→CX X.stack H s E e s'→X.xe e s'
section
variable {X:Cx}{CX:CXT}{k:Nat}{f C:Addr}{fd:FuncData}{ps:List Str}{sp:Sp}{dvs:List V}{ds:List Value}{E:XK}{x m:Str}{p pos apos:Pos}{e o:Expr}{es:List Expr}{ta:TE}{t:TA}
theorem ϲb {pins:List (Addr×Obj)}{σ:St}{H:Hp}{s:Shared}{Q:VK}{us:List Value}{vs:List V} (F:FnOk X.prog X.w X.K X.mg X.base CX k f fd ps sp) (hr:Room k X.A) (hb:Binds X.K fd ps ds) (hd:Vals dvs ds) (hx:ϱC CX X E)
  (I:Inv X pins σ H s) (r:Vals vs us) (h:sp (vs++dvs) H Q E):wpAny (model X.prog X.w) X.A (call (.ref f) us) (EP X pins σ Q) X.xe s:=by
 have r2:Vals (vs++dvs) (us++ds):=r.append hd
 have hl:(us++ds).length=ps.length:=by rw[← r2.length];exact F.len _ _ _ _ h
 refine wpAny_call (codeAny_mono (F.run X.A X.stack s H ⟨us,[]⟩ (us++ds) (vs++dvs) Q E hr I.env0 (hb s us I.kIn hl) r2 h) fun r s' hq=>?_)
 cases r with
 |error e=>exact hx pins σ H s e s' I hq
 |ok fl=>
  cases fl with
  |ret u=>exact I.after hq
  |next=>exact False.elim hq
  |brk=>exact False.elim hq
  |cont=>exact False.elim hq
structure Mk (K:PySem.W.Frag) (C f:Addr):Prop where
 makes:PySem.W.makesIn K C=true
 init:PySem.W.findIn K (.ref C) "__init__"=some (some (.ref f))
 fn:PySem.W.isFn K (.ref f)=true
 kp:PySem.W.keepIn K (.ref C)=true
end
section
variable {X:Cx}{CX:CXT}{k:Nat}{f C:Addr}{fd:FuncData}{ps ks:List Str}{sp:Sp}{E:XK}{x m:Str}{p pos apos kpos:Pos}{e o:Expr}{es:List Expr}{kws:List Keyword}{te ta:TE}{t tk:TA}{nm:Option Str}
variable {g:List Value→List Value→List Value}{gV:List V→List V→List V}
end
structure FnScope (N P:List Str) (sc:Scope):Prop where
 kind:sc.kind=.function
 co:sc.isCoroutine=false
 gen:sc.isGenerator=false
 nd:N.Nodup
 pre:N.take P.length=P
 par:∀x∈P,sc.names.lookup x=some .local∨sc.names.lookup x=some .cell
 nofree:∀y∈sc.names,y.2≠.free
theorem ϰ8 {kindOf:Str→Option NameKind}{x:Str}:∀{binds:List (Str×Value)}{m:Str→Option Value},(∀ v,(x,v)∉binds)→bindL kindOf binds m x=m x
 |[],_,_=>rfl
 |(n,v)::r,m,h=>by
  unfold bindL
  rw[ϰ8 fun w hw=>h w (List.mem_cons_of_mem _ hw)]
  split
  ·have:x≠n:=by rintro rfl;exact h v List.mem_cons_self
   simp[this]
  ·rfl
theorem ϰN {kindOf:Str→Option NameKind}{x:Str}:∀{binds:List (Str×Value)}{m:Str→Option Value},(∀ v,(x,v)∉binds)→bindC kindOf binds m x=m x
 |[],_,_=>rfl
 |(n,v)::r,m,h=>by
  unfold bindC
  rw[ϰN fun w hw=>h w (List.mem_cons_of_mem _ hw)]
  split
  ·rfl
  ·have:x≠n:=by rintro rfl;exact h v List.mem_cons_self
   simp[this]
theorem ϰL {kindOf:Str→Option NameKind}{x:Str}{v:Value}:∀{P:List Str}{vs:List Value}{i:Nat}{m:Str→Option Value},P.Nodup→P[i]?=some x→vs[i]?=some v→kindOf x=some .local →
  bindL kindOf (P.zip vs) m x=some v
 |[],_,_,_,_,h,_,_=>by simp at h
 |_::_,[],_,_,_,_,h,_=>by simp at h
 |p::P,w::vs,0,m,nd,h1,h2,hk=>by
  simp at h1 h2;subst h1;subst h2
  show bindL kindOf ((p,w)::P.zip vs) m p=_
  unfold bindL
  rw[ϰ8 fun v hv=>(List.nodup_cons.mp nd).1 (List.of_mem_zip hv).1,if_pos hk]
  simp
 |p::P,w::vs,i+1,m,nd,h1,h2,hk=>by
  show bindL kindOf ((p,w)::P.zip vs) m x=_
  unfold bindL
  exact ϰL (i:=i) (List.nodup_cons.mp nd).2 (by simpa using h1) (by simpa using h2) hk
theorem ϰV {kindOf:Str→Option NameKind}{x:Str}{v:Value}:∀{P:List Str}{vs:List Value}{i:Nat}{m:Str→Option Value},P.Nodup→P[i]?=some x→vs[i]?=some v→kindOf x≠some .local →
  bindC kindOf (P.zip vs) m x=some v
 |[],_,_,_,_,h,_,_=>by simp at h
 |_::_,[],_,_,_,_,h,_=>by simp at h
 |p::P,w::vs,0,m,nd,h1,h2,hk=>by
  simp at h1 h2;subst h1;subst h2
  show bindC kindOf ((p,w)::P.zip vs) m p=_
  unfold bindC
  rw[ϰN fun v hv=>(List.nodup_cons.mp nd).1 (List.of_mem_zip hv).1,if_neg hk]
  simp
 |p::P,w::vs,i+1,m,nd,h1,h2,hk=>by
  show bindC kindOf ((p,w)::P.zip vs) m x=_
  unfold bindC
  exact ϰV (i:=i) (List.nodup_cons.mp nd).2 (by simpa using h1) (by simpa using h2) hk
def start (N:List Str) (vs:List V):St:=vs.map some++List.replicate (N.length-vs.length) none
def cxOf (CX:CXT) (P:Program) (w:World) (K:PySem.W.Frag) (mg:Str→Option Value) (base:Heap) (N:List Str) (qual:Str) (scope:Scope) (f:Addr) (cd:Value) (A:Around) (outer:List Env) (s:Shared) (H:Hp) (E:XK):Cx where
 prog:=P
 w:=w
 K:=K
 mg:=mg
 base:=base
 A:=A.deeper (envOfC qual scope s.heap.objs.size f cd)
 N:=N
 s₀:=s
 H₀:=H
 env:=envOfC qual scope s.heap.objs.size f cd
 outer:=outer
 stack:=envOfC qual scope s.heap.objs.size f cd::outer
 ex:=[]
 calm:=true
 fn:=fun _=>true
 pn:=[]
 xe:=fun e s'=>wpAny (model P w) (A.deeper (envOfC qual scope s.heap.objs.size f cd)) (leaving (envOfC qual scope s.heap.objs.size f cd) e) (fun _ s''=>CX outer H s E e s'') (fun e' s''=>CX outer H s E e' s'') s'
theorem ϱN {sc:Scope}{n:Nat}{x:Str} (h:sc.names.lookup x=some .cell):∃c,(cellsFrom n sc.names []).lookup x=some c:=by
 have q:=PySem.W.cellsFrom_some sc.names n [] (.inl h)
 exact Option.isSome_iff_exists.mp q
theorem ϵI {CX:CXT}{P:Program}{w:World}{K:PySem.W.Frag}{mg:Str→Option Value}{base:Heap}{N ps:List Str}{qual:Str}{scope:Scope}{f:Addr}{cd:Value}{A:Around}{outer:List Env}{s s1:Shared}{H:Hp}{E:XK}{us:List Value}{vs:List V}
  (S:FnScope N ps scope) (hd:A.handled=none) (e0:Env0 P w K mg base A outer s H) (hl:vs.length=ps.length) (r:Vals vs us)
  (x:InCallC s s.heap.objs.size (bindL (envOfC qual scope s.heap.objs.size f cd).kindOf (ps.zip us) fun _=>none) (cellsFrom (s.heap.objs.size+1) scope.names []) (bindC (envOfC qual scope s.heap.objs.size f cd).kindOf (ps.zip us) fun _=>none) s1) :
  Inv (cxOf CX P w K mg base N qual scope f cd A outer s H E) [] (start N vs) H s1:=by
 have hpl:ps.length≤N.length:=by have:=congrArg List.length S.pre;rw[List.length_take] at this;omega
 obtain⟨h1,tk,rfl,hk⟩:=x.done
 have noA:∀b:Addr,b∉(cxOf CX P w K mg base N qual scope f cd A outer s H E).ex:=fun b z=>absurd (show b∈([]:List Addr) from z) (by simp)
 refine⟨⟨e0.mod,S.kind,rfl,rfl,Nat.le_refl _,fun y z c h1 h2=>?_,fun y hy=>?_,fun y c _ h=>?_,fun _=>hd,Around.frames_deeper e0.frames,.inr ⟨rfl,rfl⟩,fun b z=>absurd z (noA b),e0.bs,e0.bsz,fun b _ _=>noA b,fun b z=>absurd z (noA b),e0.funs,e0.frf⟩,
  rfl,e0.bare,Un.kept hk,⟨_,x.toInCall.ns,fun i y v h1 h2 h3=>?_⟩,fun y c h=>⟨_,x.cell y c h⟩,e0.hok.fresh (Nat.le_refl _),fun y c h=>?_,fun p hp=>absurd (show p∈([]:List (Addr×Obj)) from hp) (by simp),e0.hok.kept hk,?_⟩
 ·exact name_of_addr x.apart (PySem.mem_of_lookup h1) (PySem.mem_of_lookup h2)
 ·have hy:scope.names.lookup y=some .cell∨scope.names.lookup y=some .free:=hy
  rcases hy with hy|hy
  ·exact ϱN hy
  ·exact absurd rfl (S.nofree _ (PySem.mem_of_lookup hy))
 ·exact Nat.le_of_lt (x.above y c (PySem.mem_of_lookup h))
 ·have hi:i < vs.length:=by
   unfold start at h2
   by_cases hi:i < vs.length
   ·exact hi
   ·rw[List.getElem?_append_right (by simpa using hi)] at h2
    rw[List.getElem?_replicate] at h2
    split at h2<;>cases h2
  have ha:vs[i]?=some v:=by
   unfold start at h2
   rw[List.getElem?_append_left (by simpa using hi),List.getElem?_map] at h2
   cases e:vs[i]? with
   |none=>rw[e] at h2;cases h2
   |some a=>rw[e] at h2;cases h2;rfl
  obtain⟨u,hu,rv⟩:=r.get ha
  have hp:ps[i]?=some y:=by
   rw[← S.pre,List.getElem?_take_of_lt (by omega)];exact h1
  have ndP:ps.Nodup:=by rw[← S.pre];exact S.nd.sublist (List.take_sublist _ _)
  refine⟨u,rv,?_⟩
  rcases S.par y (List.mem_of_getElem? hp) with k|k
  ·exact .inl ⟨k,ϰL ndP hp hu k⟩
  ·obtain⟨c,e⟩:=ϱN (n:=s.heap.objs.size+1) k
   refine .inr ⟨.inl k,c,e,?_⟩
   have q:=x.cell y c e
   rw[ϰV ndP hp hu (by show scope.names.lookup y≠_;rw[k];decide)] at q
   exact q
 ·exact e0.hok.fresh (Nat.le_of_lt (x.above y c (PySem.mem_of_lookup h)))
 ·unfold start
  show _=N.length
  rw[List.length_append,List.length_map,List.length_replicate]
  omega
theorem fn_of {CX:CXT}{P:Program}{w:World}{K:PySem.W.Frag}{mg:Str→Option Value}{base:Heap}{k:Nat}{f:Addr}{name qual:Str}{params:Arguments}{body:List Stmt}{scope:Scope}{dV kV doc pm cdv ct oc:Value}{an od:Option Addr}
  {osl:Array (Option Value)}{N ps:List Str}{sp:Sp} (lk:K.lookup f=some ⟨oc,od,.func (PySem.W.fnOf name qual params body scope dV kV doc pm an cdv ct),osl⟩) (hcd:PySem.W.codeIn K cdv qual=true) (S:FnScope N ps scope)
  (len:∀vs H Q E,sp vs H Q E→vs.length=ps.length)
  (hbody:∀(A:Around) (outer:List Env) (s:Shared) (H:Hp) (vs:List V) (Q:VK) (E:XK),Room k (A.deeper (envOfC qual scope s.heap.objs.size f cdv))→sp vs H Q E →
   ∃t,PSs (cxOf CX P w K mg base N qual scope f cdv A outer s H E) body t∧t { nx:=fun _ H'=>Q .non H',rt:=Q } (start N vs) H) :
  FnOk P w K mg base CX (k+1) f (PySem.W.fnOf name qual params body scope dV kV doc pm an cdv ct) ps sp:=by
 refine⟨len,fun A outer s H args us vs Q E hr e0 hb r hsp=>?_⟩
 have hl:=len _ _ _ _ hsp
 have KX:K.In s.heap:=e0.mod.kin.keeps fun b o e=>(e0.bs b o e).1
 have lim:s.heap.NoLimit:=e0.mod.nolimit.keeps fun b o e=>(e0.bs b o e).1
 have hkind:∀y∈ps.zip us,scope.names.lookup y.1=some .local∨(scope.names.lookup y.1=some .cell∧((cellsFrom (s.heap.objs.size+1) scope.names []).lookup y.1).isSome=true):=fun⟨n,v⟩ hy=>by
  rcases S.par n (List.of_mem_zip hy).1 with q|q
  ·exact .inl q
  ·exact .inr ⟨q,PySem.W.cellsFrom_some _ _ _ (.inl q)⟩
 refine codeAny_call_function hr.depth (KX _ _ lk) rfl S.co S.gen rfl (PySem.W.codeRec_of KX hcd) (hb _ _ _ _ ?_)
 refine wpAny_newFunctionEnv_cells S.kind hkind fun env he s1 x=>?_
 subst he
 refine⟨lim.keeps x.toInCall.keep,codeAny_func ?_⟩
 obtain⟨t,ht,hq⟩:=hbody A outer s H vs Q E (hr.deeper _) hsp
 have I:Inv (cxOf CX P w K mg base N qual scope f cdv A outer s H E) [] (start N vs) H s1:=ϵI S hr.hd e0 hl r x
 refine wpAny_mono (ht [] s1 (start N vs) H _ I hq) (fun fl s' hs=>?_) fun e s' hs=>hs
 have fin:∀{σ':St}{H':Hp}{v:V}{u:Value},Inv (cxOf CX P w K mg base N qual scope f cdv A outer s H E) [] σ' H' s'→RelV v u→Q v H'→CE outer P w H s Q u s':=
  fun {σ' H' v u} J rv q=>⟨v,H',J.os,J.bare,J.base,J.hok,rv,q⟩
 cases fl with
 |ret u=>
  obtain⟨v,σ',H',J,rv,q⟩:=hs
  exact fin J rv q
 |next=>
  obtain⟨σ',H',J,q⟩:=hs
  exact fin (v:=V.non) (u:=Value.none) J rfl q
 |brk=>
  obtain⟨_,_,_,q⟩:=hs
  exact False.elim q
 |cont=>
  obtain⟨_,_,_,q⟩:=hs
  exact False.elim q
end L2
namespace L2
open PySem PySem.Spec PyProof.Rows
section
variable {X:Cx}{x:Str}{p pos:Pos}{e:Expr}{es:List Expr}{t:TA}{id T:String}{r:List V→Hp→VK→Prop}
def tCB (r:List V→Hp→VK→Prop) (t:TA):TE:=fun σ H Q=>t σ H fun vs H1=>r vs H1 Q
theorem ϖ1 (hc:ϕ_ X (.builtin id) r) (hg:Gl X x) (hm:X.mg x=none) (hv:bootBuiltins x=some (.builtin id)) (ha:PA X (e::es) t) (hn:x≠"__name__":=by decide) (hdb:(x == ("__debug__":Str))=false:=by decide)
  (he:starEach (e::es) X.env=(false,eval e X.env)::starEach es X.env:=by rfl) (hpl:(backTo pos (starEach es X.env)).any (·.1)=false:=by rfl):PE X (.Call (.Name x p) (e::es) [] pos) (tCB r t):=by
 intro pins s σ H Q I h
 refine wpAny_Call_Name_kw (ϕ5 I hg hm hv ?_ hn hdb)
 exact PyProof.Rows.callWith_builtin1 (thn (ha pos pins s σ H _ I h) fun us s1 ⟨vs,H1,I1,r1,q1⟩=>hc pins s1 σ H1 vs us Q I1 r1 q1) he hpl
theorem ϕG (hc:ϕ_ X (.type T) r) (hg:Gl X x) (hm:X.mg x=none) (hv:bootBuiltins x=some (.type T)) (ha:PA X (e::es) t) (hn:x≠"__name__":=by decide) (hdb:(x == ("__debug__":Str))=false:=by decide)
  (he:starEach (e::es) X.env=(false,eval e X.env)::starEach es X.env:=by rfl) (hpl:(backTo pos (starEach es X.env)).any (·.1)=false:=by rfl):PE X (.Call (.Name x p) (e::es) [] pos) (tCB r t):=by
 intro pins s σ H Q I h
 refine wpAny_Call_Name_kw (ϕ5 I hg hm hv ?_ hn hdb)
 exact PyProof.Rows.callWith_type1 (thn (ha pos pins s σ H _ I h) fun us s1 ⟨vs,H1,I1,r1,q1⟩=>hc pins s1 σ H1 vs us Q I1 r1 q1) he hpl
end
end L2
namespace HT
open PySem PyProof.Rows
def lexLt:List Int→List Int→Bool
 |[],[]=>false
 |[],_::_=>true
 |_::_,[]=>false
 |x::xs,y::ys=>if x=y then lexLt xs ys else decide (x < y)
section
open PySem.SeqAt
open PySem.AutoSeq1 (wpAny_loadPart')
open PySem.MeetsSeq PySem.MeetsSeq2 PySem.MeetsSeq3
end
section
variable {prog:Program}{w:World}{A:Around}{E:Value→Shared→Prop}{s:Shared}
def sIx (n d:Nat):Option Int→Nat
 |none=>d
 |some v=>if v < 0 then (v+(n:Int)).toNat else min v.toNat n
theorem sIx_le (n d:Nat) (hd:d≤n) (o:Option Int):sIx n d o≤n:=by
 cases o with
 |none=>exact hd
 |some v=>
  show(if v < 0 then (v+(n:Int)).toNat else min v.toNat n)≤n
  by_cases hv:v < 0
  ·rw[if_pos hv];omega
  ·rw[if_neg hv];exact Nat.min_le_right _ _
end
end HT
namespace L2
open PySem PySem.Spec PyProof.Rows
abbrev TO:=St→Hp→(Option Int→Hp→Prop)→Prop
def PO (X:Cx) (e:Option Expr) (t:TO):Prop:=
 ∀(pins:List (Addr×Obj)) (s:Shared) (σ:St) (H:Hp) (Q:Option Int→Hp→Prop),Inv X pins σ H s→t σ H Q →
  wpAny (model X.prog X.w) X.A (evalPart e X.env) (fun u s'=>∃o H',Inv X pins σ H' s'∧IsPart u o∧Q o H') X.xe s
def ϲ1:TO:=fun _ H Q=>Q none H
def tPart (t:TE):TO:=fun σ H Q=>t σ H fun x H1=>∃i,x=.int i∧Q (some i) H1
section
variable {X:Cx}{e:Expr}{te:TE}{lo hi:Option Expr}{tl th:TO}{pos p2:Pos}
theorem ϲy:PO X none ϲ1:=by
 intro pins s σ H Q I h
 rw[evalPart_none]
 exact wpAny_pure ⟨none,H,I,.none,h⟩
theorem ϲJ (h:PE X e te):PO X (some e) (tPart te):=by
 intro pins s σ H Q I hw
 rw[evalPart_some]
 refine thn (h pins s σ H _ I hw) fun u s1 ⟨x,H1,I1,r1,q1⟩=>?_
 obtain⟨i,rfl,q⟩:=q1
 obtain⟨t,rfl⟩:=r1
 exact⟨some i,H1,I1,.int i t,q⟩
def SlR (X:Cx) (r:V→Option Int→Option Int→Hp→VK→Prop):Prop:=
 ∀(pins:List (Addr×Obj)) (s:Shared) (σ:St) (H:Hp) (x:V) (v vl vu:Value) (lo hi:Option Int) (sl:Addr) (Q:VK),Inv X pins σ H s→RelV x v→s.heap.IsSliceOf sl vl vu .none→IsPart vl lo→IsPart vu hi→r x lo hi H Q →
  ∃T id,typeLookup (.type T) "__getitem__"=pure (some (.builtin id))∧s.TypeIs v T∧wpAny (model X.prog X.w) X.A (getItem v (.ref sl)) (EP X pins σ Q) X.xe s
def tSl (r:V→Option Int→Option Int→Hp→VK→Prop) (te:TE) (tl th:TO):TE:=fun σ H Q=>te σ H fun x H1=>tl σ H1 fun l H2=>th σ H2 fun u H3=>r x l u H3 Q
theorem ϵY {r:V→Option Int→Option Int→Hp→VK→Prop} (hr:SlR X r) (he:PE X e te) (hl:PO X lo tl) (hu:PO X hi th):PE X (.Subscript e (.Slice lo hi none p2) pos) (tSl r te tl th):=by
 intro pins s σ H Q I h
 refine Subscript_ (thn (he pins s σ H _ I h) fun v s1 ⟨x,H1,I1,r1,q1⟩=>?_)
 refine wpAny_Slice (thn (hl pins s1 σ H1 _ I1 q1) fun vl s2 ⟨l,H2,I2,pl,q2⟩=>thn (hu pins s2 σ H2 _ I2 q2) fun vu s3 ⟨u,H3,I3,pu,q3⟩=>?_)
 rw[evalPart_none]
 refine wpAny_pure ?_
 have I4:Inv X pins σ H3 { s3 with heap:=s3.heap.push { cls:=.type "slice",data:=.fields #[vl,vu,.none] } }:=I3.kept (t':=s3.toks) fun b ob q=>Heap.get?_push_of_some _ q
 obtain⟨T,id,hT,ht,hg⟩:=hr pins { s3 with heap:=s3.heap.push { cls:=.type "slice",data:=.fields #[vl,vu,.none] } } σ H3 x v vl vu l u s3.heap.objs.size Q I4 r1 (Heap.IsSliceOf.new ..) pl pu q3
 show wpAny (model X.prog X.w) X.A (subscriptTail e (.Slice lo hi none p2) v (.ref s3.heap.objs.size)) (EP X pins σ Q) X.xe { s3 with heap:=s3.heap.push { cls:=.type "slice",data:=.fields #[vl,vu,.none] } }
 exact tail_any (ops:=[.ref s3.heap.objs.size,v]) ht hT hg (by with_unfolding_all rfl)
end
end L2
namespace L2
open PySem PySem.Spec PyProof.Rows
def ixN (n:Nat) (i:Int):Option Nat:=if 0≤i then (if i < n then some i.toNat else none) else if -(n:Int)≤i then some (i+n).toNat else none
def atI {α:Type} (xs:List α) (i:Int):Option α:=(ixN xs.length i).bind fun j=>xs[j]?
theorem ϡd {n:Nat}{i:Int}{j:Nat} (h:ixN n i=some j):seqIndex? i n=some j∧j < n∧-(n:Int)≤i∧i < n:=by
 unfold ixN at h
 by_cases h0:0≤i
 ·rw[if_pos h0] at h
  by_cases h1:i < n
  ·rw[if_pos h1] at h
   have e:i.toNat=j:=Option.some.inj h
   exact⟨by rw[seqIndex_of h0 h1,e],by omega,by omega,h1⟩
  ·rw[if_neg h1] at h;cases h
 ·rw[if_neg h0] at h
  by_cases h1:-(n:Int)≤i
  ·rw[if_pos h1] at h
   have e:(i+n).toNat=j:=Option.some.inj h
   exact⟨by rw[seqIndex_neg (by omega) h1,e],by omega,h1,by omega⟩
  ·rw[if_neg h1] at h;cases h
theorem ϱn {α:Type}{xs:List α}{i:Int}{v:α} (h:atI xs i=some v):∃j,seqIndex? i xs.length=some j∧xs[j]?=some v∧j < xs.length∧-(xs.length:Int)≤i∧i < xs.length:=by
 unfold atI at h
 cases e:ixN xs.length i with
 |none=>rw[e] at h;cases h
 |some j=>
  rw[e] at h
  obtain⟨h1,h2,h3,h4⟩:=ϡd e
  exact⟨j,h1,h,h2,h3,h4⟩
theorem ϖM {α:Type}{xs:List α}{j:Nat}{v:α} (h:xs[j]?=some v):atI xs (j:Int)=some v:=by
 have hj:j < xs.length:=(List.getElem?_eq_some_iff.mp h).1
 have e:ixN xs.length (j:Int)=some j:=by
  unfold ixN
  rw[if_pos (by omega),if_pos (by omega)];simp
 unfold atI;rw[e];exact h
def ϲq (b:Expr):Prop:=∀o i,subscripted b false o i=operate [o,i] (getItem o i)
def IxR (X:Cx) (r:R2):Prop:=
 ∀(value slice:Expr) (pins:List (Addr×Obj)) (s:Shared) (σ:St) (H:Hp) (x y:V) (v u:Value) (Q:VK),Inv X pins σ H s→RelV x v→RelV y u→r x y H Q →
  subscripted slice false v u=operate [v,u] (getItem v u)→wpAny (model X.prog X.w) X.A (subscriptTail value slice v u) (EP X pins σ Q) X.xe s
def MtR (X:Cx) (id:String) (r:V→List V→Hp→VK→Prop):Prop:=
 ∀(pins:List (Addr×Obj)) (s:Shared) (σ:St) (H:Hp) (x:V) (xs:List V) (v:Value) (us:List Value) (Q:VK),Inv X pins σ H s→RelV x v→Vals xs us→r x xs H Q →
  wpAny (model X.prog X.w) X.A (call (.builtin id) (v::us)) (EP X pins σ Q) X.xe s
section
variable {X:Cx}{a b:Expr}{ta tb:TE}{pos:Pos}
theorem ϖv {r:R2} (hr:IxR X r) (ha:PE X a ta) (hb:PE X b tb) (hs:ϲq b):PE X (.Subscript a b pos) (tOp r ta tb):=by
 intro pins s σ H Q I h
 exact Subscript_ (binT ha hb I h fun v u s2 x y H2 I2 rx ry q=>hr a b pins s2 σ H2 x y v u Q I2 rx ry q (hs _ _))
def rIxL (K:PySem.W.Frag):R2:=fun x y H Q=>∃p xs i v,x=.ref p∧y=.int i∧SqL K H p xs∧atI xs i=some v∧Q v H
def rIxT (K:PySem.W.Frag):R2:=fun x y H Q=>∃p xs i v,x=.ref p∧y=.int i∧SqT K H p xs∧atI xs i=some v∧Q v H
def rIxS:R2:=fun x y H Q=>∃z i c,x=.str z∧y=.int i∧z.length≤sizeLine∧atI z.cps.toList i=some c∧Q (.str ⟨#[c]⟩) H
theorem ϖW:IxR X (rIxL X.K):=by
 intro value slice pins s σ H x y v u Q I rx ry h hs
 obtain⟨p,xs,i,z,rfl,rfl,hq,he,q⟩:=h
 cases rx
 obtain⟨t,rfl⟩:=ry
 obtain⟨its,r,pl,hz⟩:=I.list hq
 obtain⟨j,h1,h2,h3,h4,h5⟩:=ϱn he
 obtain⟨w,ew,rw'⟩:=r.get h2
 have hl:=r.length
 have hn:=ϱz
 have fin:EP X pins σ Q w s:=⟨z,H,I,rw',q⟩
 by_cases h0:0≤i
 ·have hj:i.toNat=j:=by
   rw[seqIndex_of h0 h5] at h1
   exact Option.some.inj h1
  exact item_listR pl.isList h0 (by omega) (by rw[hj];simpa using ew) fin hs
 ·have hj:(i+(its.toArray.size:Int)).toNat=j:=by
   rw[seqIndex_neg (by omega) h4] at h1
   rw[List.size_toArray,← hl]
   exact Option.some.inj h1
  exact subscriptTail_builtinR (x:=w) pl.isList.typeIs slot_list_getitem.lookup
   (wpAny_getItem_list_neg (Q:=fun r s'=>r=w∧EP X pins σ Q r s') pl.isList (by omega) (by rw[List.size_toArray]<;>omega) (by omega) (by rw[hj];simpa using ew) ⟨rfl,fin⟩) hs
theorem ϖp:IxR X (rIxT X.K):=by
 intro value slice pins s σ H x y v u Q I rx ry h hs
 obtain⟨p,xs,i,z,rfl,rfl,hq,he,q⟩:=h
 cases rx
 obtain⟨t,rfl⟩:=ry
 obtain⟨its,r,pl,hz⟩:=I.tuple hq
 obtain⟨j,h1,h2,h3,h4,h5⟩:=ϱn he
 obtain⟨w,ew,rw'⟩:=r.get h2
 have hl:=r.length
 have hn:=ϱz
 have fin:EP X pins σ Q w s:=⟨z,H,I,rw',q⟩
 exact subscriptTail_builtinR (x:=w) pl.typeIs slot_tuple_getitem.lookup
  (getItem_tuple (j:=j) (Q:=fun r s'=>r=w∧EP X pins σ Q r s') pl (by omega) (by omega) (by rw[List.size_toArray,← hl];exact h1) (by simpa using ew) ⟨rfl,fin⟩) hs
theorem ix_str:IxR X rIxS:=by
 intro value slice pins s σ H x y v u Q I rx ry h hs
 obtain⟨z,i,c,rfl,rfl,hz,he,q⟩:=h
 obtain⟨t,rfl⟩:=rx
 obtain⟨t',rfl⟩:=ry
 obtain⟨j,h1,h2,h3,h4,h5⟩:=ϱn he
 have hl:z.cps.toList.length=z.length:=by simp[Str.length]
 rw[hl] at h1 h4 h5
 have hn:=ϱz
 exact tail_any (typeIs_str s z t) slot_str_getitem.lookup (getItem_str (c:=c) (by
  have e1:decide (i < -(2 ^ 63:Int))=false:=decide_eq_false (by omega)
  have e2:decide (i≥2 ^ 63)=false:=decide_eq_false (by omega)
  rw[e1,e2,Bool.or_false]) (by rw[h1];simpa using h2) ⟨.str ⟨#[c]⟩,H,I.tok _,⟨_,rfl⟩,q⟩) hs
theorem ϰR (lo hi:Option Int) (n:Nat):(sliceBounds lo hi none n).1=((HT.sIx n 0 lo:Nat):Int)∧(sliceBounds lo hi none n).2.1=((HT.sIx n n hi:Nat):Int)∧(sliceBounds lo hi none n).2.2=1:=by
 refine⟨?_,?_,rfl⟩
 ·cases lo with
  |none=>simp[sliceBounds,HT.sIx]
  |some i=>
   simp only[sliceBounds,HT.sIx,Option.getD_none,show(1:Int) > 0 by decide,if_true]
   by_cases h:i < 0
   ·simp only[h,if_true]<;>omega
   ·simp only[h,if_false]<;>omega
 ·cases hi with
  |none=>simp[sliceBounds,HT.sIx]
  |some i=>
   simp only[sliceBounds,HT.sIx,Option.getD_none,show(1:Int) > 0 by decide,if_true]
   by_cases h:i < 0
   ·simp only[h,if_true]<;>omega
   ·simp only[h,if_false]<;>omega
theorem ϰ3:ϕ_ X (.builtin "len") (fun xs H Q=>∃p ys,xs=[.ref p]∧(SqL X.K H p ys∨SqT X.K H p ys)∧Q (.int ys.length) H):=by
 intro pins s σ H xs us Q I r h
 obtain⟨p,ys,rfl,hq,q⟩:=h
 obtain⟨u,rfl,rx⟩:=ϲA r
 cases rx
 have hn:=ϱz
 rcases hq with hq|hq
 ·obtain⟨its,r',pl,hz⟩:=I.list hq
  have hlen:=r'.length
  exact Calls.call_len_list pl.isList (by simp only[List.size_toArray]<;>omega) ⟨.int ys.length,H,I.tok _,⟨s.toks+1,by rw[List.size_toArray,hlen]⟩,q⟩
 ·obtain⟨its,r',pl,hz⟩:=I.tuple hq
  have hlen:=r'.length
  exact len_tuple pl (by simp only[List.size_toArray]<;>omega) ⟨.int ys.length,H,I.tok _,⟨s.toks+1,by rw[List.size_toArray,hlen]⟩,q⟩
theorem ϕh:ϕ_ X (.type "list") (fun xs H Q=>∃p ys,xs=[.ref p]∧(SqL X.K H p ys∨SqT X.K H p ys)∧∀l,H l=none→Q (.ref l) (upd H l (.lst ys))):=by
 intro pins s σ H xs us Q I r h
 obtain⟨p,ys,rfl,hq,q⟩:=h
 obtain⟨u,rfl,rx⟩:=ϲA r
 cases rx
 have fin:∀(its:List Value),Vals ys its→ys.length≤sizeLine→∀(h':Heap) (c':Nat),(∀ b o',s.heap.get? b=some o'→h'.get? b=some o') →
   h'.get? s.heap.objs.size=some { cls:=.type "list",dict:=none,data:=.seq its.toArray c',slots:=#[] }→EP X pins σ Q (.ref s.heap.objs.size) { s with heap:=h' }:=fun its r' hz h' c' kp e=>
  ⟨.ref s.heap.objs.size,_,I.laid (t':=s.toks) kp (Nat.le_refl _) (show ObjOk X.prog X.w _ h' _ (.lst ys) from ⟨hz,its,c',r',e⟩),rfl,q _ (I.hok.fresh (Nat.le_refl _))⟩
 rcases hq with hq|hq
 ·obtain⟨its,r',pl,hz⟩:=I.list hq
  have hlen:=r'.length
  obtain⟨o,ho,hc,n,hd⟩:=pl.isList
  exact call_list_seq p (.inl rfl) ho hc hd (fun h' c' kp e=>fin its r' hz h' c' kp e) (by simp only[List.size_toArray]<;>omega)
 ·obtain⟨its,r',pl,hz⟩:=I.tuple hq
  have hlen:=r'.length
  obtain⟨o,ho,hc,n,hd⟩:=pl
  exact call_list_seq p (.inr rfl) ho hc hd (fun h' c' kp e=>fin its r' hz h' c' kp e) (by simp only[List.size_toArray]<;>omega)
def tyV (K:PySem.W.Frag) (T:String) (x:V) (H:Hp):Prop:=match x with
 |.str _=>T="str"
 |.int _=>T="int"
 |.ref p=>(T="list"∧∃xs,SqL K H p xs)∨(T="tuple"∧∃o,K.lookup p=some o∧o.cls=.type "tuple"∧o.dict=none) ∨
   (T="dict"∧((∃ kvs,H p=some (.dK kvs))∨∃kvs,H p=some (.dT kvs)))∨(T="set"∧∃S n,H p=some (.set S n))
 |_=>False
theorem tyV_is {pins:List (Addr×Obj)}{σ:St}{H:Hp}{s:Shared}{T:String}{x:V}{v:Value} (I:Inv X pins σ H s) (r:RelV x v) (ty:tyV X.K T x H) :
  s.TypeIs v T∧∀a,v=.ref a→∃ob,s.heap.get? a=some ob∧ob.dict=none:=by
 cases x with
 |str z=>
  obtain⟨t,rfl⟩:=r
  cases (show T="str" from ty)
  exact⟨typeIs_str s z t,fun _ e=>nomatch e⟩
 |int i=>
  obtain⟨t,rfl⟩:=r
  cases (show T="int" from ty)
  exact⟨typeIs_int s i t,fun _ e=>nomatch e⟩
 |ref p=>
  cases r
  rcases ty with⟨rfl,xs,hq⟩|⟨rfl,o,hk,hc,hd⟩|⟨rfl,hk⟩|⟨rfl,S,n,hk⟩
  ·obtain⟨its,_,pl,_⟩:=I.list hq
   refine⟨pl.isList.typeIs,fun a e=>?_⟩
   cases e
   obtain⟨o,n,e,c,hd,_⟩:=pl
   exact⟨o,e,hd⟩
  ·refine⟨⟨o,I.kIn p o hk,hc⟩,fun a e=>?_⟩
   cases e
   exact⟨o,I.kIn _ o hk,hd⟩
  ·have z:∃o,s.heap.get? p=some o∧o.ExactDict:=by
    rcases hk with⟨kvs,hk⟩|⟨kvs,hk⟩
    ·obtain⟨_,_,_,_,o,_,_,e,ex,_⟩:=I.hok p _ hk
     exact⟨o,e,ex⟩
    ·obtain⟨_,_,_,_,o,_,_,e,ex,_⟩:=I.hok p _ hk
     exact⟨o,e,ex⟩
   obtain⟨o,e,ex⟩:=z
   refine⟨⟨o,e,ex.1⟩,fun a e2=>?_⟩
   cases e2
   exact⟨o,e,ex.2.1⟩
  ·obtain⟨o,_,_,_,e,ex,_⟩:=I.hok p _ hk
   refine⟨⟨o,e,ex.1⟩,fun a e2=>?_⟩
   cases e2
   exact⟨o,e,ex.2.1⟩
 |_=>exact False.elim ty
def tBM (K:PySem.W.Frag) (T:String) (r:V→List V→Hp→VK→Prop) (to:TE) (t:TA):TE:=fun σ H Q=>to σ H fun x H1=>tyV K T x H1∧t σ H1 fun xs H2=>r x xs H2 Q
variable {o e:Expr}{es:List Expr}{to:TE}{t:TA}{name:Str}{apos cpos:Pos}{T id:String}{r:V→List V→Hp→VK→Prop}
theorem ϕY (pa:PlainAttrs T) (slot:Slot T name id) (hty:typeOf (.builtin id)=pure (.type "method_descriptor")) (hm:MtR X id r) (ho:PE X o to) (ha:PA X (e::es) t)
  (hbase:attributeBase o name X.env (eval o X.env)=eval o X.env:=by rfl)
  (hfew:((backTo cpos (starEach (e::es) X.env)).all (fun x=>!x.1) && (backToKw cpos (keywordEach [] X.env)).all (fun x=>x.1.isSome)
   && decide ((e::es).length+([]:List Keyword).length+(if ([]:List Keyword).isEmpty then 0 else 1) < 30))=true:=by rfl)
  (hline:(apos.endLine == cpos.line)=true:=by rfl) (hs:starEach (e::es) X.env=(false,eval e X.env)::starEach es X.env:=by rfl) (hplain:(backTo cpos (starEach es X.env)).any (·.1)=false:=by rfl) :
  PE X (.Call (.Attribute o name apos) (e::es) [] cpos) (tBM X.K T r to t):=by
 intro pins s σ H Q I h
 refine wpAny_Call_method_late hbase hfew hline rfl (thn (ho pins s σ H _ I h) fun v s1 ⟨x,H1,I1,r1,ty,q1⟩=>?_)
 obtain⟨h1,h2⟩:=tyV_is I1 r1 ty
 refine⟨T,id,pa,slot,hty,h1,h2,?_⟩
 have hA:=ha cpos pins s1 σ H1 _ I1 q1
 rw[hs] at hA⊢
 refine Calls.callWith_builtin (by show(false || (backTo cpos (starEach es X.env)).any (·.1))=false;rw[hplain]<;>rfl) (Calls.evalArgs_plain ?_)
 exact thn hA fun us s2 ⟨vs,H2,I2,r2,q2⟩=>hm pins s2 σ H2 x vs v us Q I2 r1 r2 q2
end
end L2
namespace L2
open PySem PySem.Spec PyProof.Rows
def MtM (X:Cx) (id:String) (r:V→List V→Hp→VK→Prop):Prop:=
 ∀(pins:List (Addr×Obj)) (s:Shared) (σ:St) (H:Hp) (x:V) (xs:List V) (v:Value) (us:List Value) (Q:VK),Inv X pins σ H s→RelV x v→Vals xs us→r x xs H Q →
  wpAny (model X.prog X.w) X.A (call (.builtin id) (v::us)) (EP X pins σ Q) X.xe s
theorem Vals.one:∀{x:V}{us:List Value},Vals [x] us→∃u,us=[u]∧RelV x u
 |_,_,.cons r .nil=>⟨_,rfl,r⟩
section
variable {X:Cx}{pins:List (Addr×Obj)}{σ:St}{H:Hp}{s:Shared}{l b:Addr}{xs ys zs:List V}
theorem Inv.lset {its its':List Value}{n:Nat}{f:Array Value→Array Value}{t':Nat} (I:Inv X pins σ H s) (hH:H l=some (.lst xs))
  (e:s.heap.get? l=some { cls:=.type "list",data:=.seq its.toArray n }) (hf:f its.toArray=its'.toArray) (hv:Vals ys its') (hz:ys.length≤sizeLine) :
  Inv X pins σ (upd H l (.lst ys)) { s with heap:=s.heap.update l (Obj.mapSeq f),toks:=t' }:=by
 have q:=PySem.IsL.update e f
 rw[hf] at q
 refine I.write (x:=l) (e:=l) (by rw[hH];exact trivial) (.inl rfl) (fun b' u hb hu=>(Heap.get?_update_other s.heap (Obj.mapSeq f) (Ne.symm hb)).trans hu) ⟨_,q⟩ ?_
 exact⟨hz,its',_,hv,q⟩
theorem Inv.lnew {its:List Value}{t':Nat} (I:Inv X pins σ H s) (hv:Vals ys its) (hz:ys.length≤sizeLine) :
  Inv X pins σ (upd H s.heap.objs.size (.lst ys)) { s with heap:=s.heap.push { cls:=.type "list",data:=.seq its.toArray },toks:=t' }:=
 I.laid (fun _ _ q=>Heap.get?_push_of_some _ q) (Nat.le_refl _) ⟨hz,its,0,hv,Heap.get?_push_size _ rfl⟩
theorem Inv.fresh (I:Inv X pins σ H s):H s.heap.objs.size=none:=I.hok.fresh (Nat.le_refl _)
theorem Inv.lstM (I:Inv X pins σ H s) (hH:H l=some (.lst xs)):xs.length≤sizeLine∧∃(its:List Value) (n:Nat),Vals xs its∧xs.length=its.length∧s.heap.get? l=some { cls:=.type "list",data:=.seq its.toArray n }:=by
 obtain⟨z,its,n,r,e⟩:=I.hok l _ hH
 exact⟨z,its,n,r,r.length,e⟩
end
section
variable {X:Cx}
def ϡf:V→List V→Hp→VK→Prop:=fun x vs H Q=>∃l xs y,x=.ref l∧vs=[y]∧H l=some (.lst xs)∧xs.length < sizeLine∧Q .non (upd H l (.lst (xs++[y])))
theorem ϑG:MtM X "list.append" ϡf:=by
 intro pins s σ H x vs v us Q I rx rv h
 obtain⟨l,xs,y,rfl,rfl,hH,hz,q⟩:=h
 cases rx
 obtain⟨u,rfl,ru⟩:=rv.one
 obtain⟨z,its,n,r,hl,e⟩:=I.lstM hH
 refine call_meets F.slot_list_append ⟨_,e,rfl⟩ F.entry_list_append (F.args_list_append_2 _ _) (PySem.list_append l its.toArray n u (by rw[List.size_toArray];omega)) ⟨e,?_⟩
 refine⟨.non,_,I.lset (its':=its++[u]) hH e (by simp) (r.append (.cons ru .nil)) ?_,rfl,q⟩
 rw[List.length_append,List.length_singleton]
 omega
def rCat:R2:=fun x y H Q=>∃l b xs zs,x=.ref l∧y=.ref b∧H l=some (.lst xs)∧H b=some (.lst zs)∧xs.length+zs.length≤sizeLine∧∀p,H p=none→Q (.ref p) (upd H p (.lst (xs++zs)))
theorem ϱB:OpR X (binaryOp .Add) rCat:=by
 intro pins s σ H x y v u Q I rx ry h
 obtain⟨l,b,xs,zs,rfl,rfl,hH,hB,hz,q⟩:=h
 cases rx
 cases ry
 obtain⟨z,its,n,r,hl,e⟩:=I.lstM hH
 obtain⟨z2,its2,n2,r2,hl2,e2⟩:=I.lstM hB
 refine PySem.P.add_list e e2 ?_ (by rw[List.size_toArray,List.size_toArray];omega)
 have ea:its.toArray++its2.toArray=(its++its2).toArray:=by simp
 rw[ea]
 exact⟨.ref _,_,I.lnew (t':=s.toks) (r.append r2) (by rw[List.length_append];omega),rfl,q _ I.fresh⟩
end
section
variable {prog:Program}{w:World}{A:Around}{E:Value→Shared→Prop}{s:Shared}
end
section
variable {X:Cx}
end
end L2
namespace Att
open PySem PySem.W PySem.Calls PyProof.Rows
theorem ϕ7 {P:Params}{h:Heap}:∀(ns:List Int) (vs:List Value),WellAll P h vs (ns.map WData.int)→IntsAre vs ns:=by
 intro ns
 induction ns with
 |nil=>
  intro vs w
  rw[List.map_nil] at w
  cases w
  exact .nil
 |cons n ns ih=>
  intro vs w
  rw[List.map_cons] at w
  cases w with
  |cons a b=>
   cases a
   exact .cons _ _ (ih _ b)
theorem ϵm {l:OpenLaw}{n:Nat} (hn:l.most=some n) {P:Params}{h:Heap}{args:List WData}{vals:List Value}
  (hpre:l.row.toRowW.claim.pre args=true) (hwl:WellAll P h vals args) :
  ∃a vs ns,vals=[Value.ref a]∧args=[WData.list (ns.map WData.int)]∧h.get? a=some { cls:=.type "list",data:=.seq vs.toArray }∧IntsAre vs ns∧ns.length≤n:=by
 have hsh:WShape.hasAll [] args [.list .int]=true:=(pre_splitW hpre).1
 have hc:l.pre.holds [] { args:=args }=true:=(pre_splitW hpre).2
 obtain⟨d,r,rfl,h1,h2⟩:=hasAllW_cons hsh
 obtain rfl:=hasAllW_nil h2
 obtain⟨xs,rfl,h3⟩:=hasW_list h1
 obtain⟨ns,rfl⟩:=items_int h3
 have hlen:ns.length≤n:=by
  unfold OpenLaw.pre at hc
  have h4:(WTm.not (.lt (.lit (.int (n:Int))) (.len (.arg 0)))).holds [] { args:=[.list (ns.map .int)] }=true:=by
   have h4:=(holds_andW hc).1
   rw[hn] at h4
   exact h4
  have h5:=condW_of h4 (w_not (w_lt w_lit (w_len_list (w_arg rfl))))
  rw[List.length_map] at h5
  refine Nat.le_of_not_lt fun q=>?_
  have q':(n:Int) < ((ns.length:Nat):Int):=by omega
  first
   |(rw[decide_eq_true q'] at h5;exact absurd h5 (by decide))
   |(simp at h5;omega)
 cases hwl with
 |cons w1 w2=>
  cases w2
  cases w1 with
  |list ho hall=>exact⟨_,_,ns,rfl,rfl,ho,ϕ7 ns _ hall,hlen⟩
theorem ϵg (l:OpenLaw) (args:List WData):l.row.toRowW.claim.post args (.bool true) args=true:=
 postW_of (r:=l.row.toRowW) (X:=(true == true))
  (show WShape.has [] (.bool true) .bool=true by first|rfl|decide|simp[WShape.has,WShape.arms,WShape.armsAll])
  (show(WTm.eq .res (.lit (.bool true))).value [] { args:=args,res:=some (.bool true),after:=args }=some (.bool (true == true)) from w_eq_bool (w_res rfl) w_lit) rfl
theorem attach_call {l:OpenLaw}{n:Nat}{q:Program}{loose:List Str}{XP:(Str→Option Value)→Heap→Prop}{YP:World→Heap→Prop}{d:DefRec}
  (hn:l.most=some n) (hdf:d.params.defaults=[])
  (call:∀(w:World) (s₀ s₁:Shared) (mg mb:Str→Option Value) (fa:Addr) (o:Obj) (pm cd doc:Value) (a:Addr) (vs:List Value) (ns:List Int),
   Ground q loose [] XP w s₀ mg mb s₁.heap→YP w s₁.heap →
   s₁.heap.get? fa=some o→o.data=.func (docDef d.name d.params d.body d.scope pm cd doc)→s₁.heap.CodeRec cd d.name→mg d.name=some (.ref fa) →
   s₁.heap.get? a=some { cls:=.type "list",data:=.seq vs.toArray }→IntsAre vs ns→ns.length≤n→s₁.gens=#[] →
   codeAny (model l.prog w) callerA (.call (.ref fa) ⟨[.ref a],[]⟩) (fun r s'=>r=.ok (.ret (.bool true))∧OldK s₁.heap s'.heap∧s'.os=s₁.os∧AllBare s'.gens) s₁) :
  WalkO q loose XP YP l.row.toRowW d [] (fun f vs=>PySem.call f vs):=by
 intro w s₀ s₁ mg mb G Y fa o pm cd doc dV kV ho hd hcd hD hmg hg args vals as hpre hlay hrd hwl hlo
 obtain rfl:dV=.none:=Dflts.none hD hdf
 obtain rfl:kV=.none:=Dflts.noKw hD
 obtain⟨a,vs,ns,rfl,rfl,hobj,hints,hlen⟩:=ϵm hn hpre hwl
 refine enter_call (codeAny_mono (call w s₀ s₁ mg mb fa o pm cd doc a vs ns G Y ho (fd_plain hd) hcd hmg hobj hints hlen hg) fun r s' hq=>?_)
 obtain⟨rfl,h2,h3,h4⟩:=hq
 exact⟨.inl ⟨.bool true,.bool true,[],rfl,fun _=>rfl,.bool true,ϵg l _,fun _=>⟨List.Pairwise.nil,fun _ hm=>(nomatch hm)⟩⟩,h2,h3,h4⟩
section
variable {prog:Program}{w:World}{A:Around}{E:Value→Shared→Prop}{s:Shared}{K:Frag}
def ledger (h:Heap) (L d:Addr):List (Addr×Obj):=(List.range h.objs.size).filterMap fun a=>if a=L∨a=d then none else (h.get? a).map fun o=>(a,o)
end
end Att
namespace L2
open PySem PySem.Spec PyProof.Rows
theorem ϕ9:∀{vs:List Value}{ns:List Int},IntsAre vs ns→Vals (ns.map V.int) vs
 |_,_,.nil=>.nil
 |_,_,.cons n t h=>.cons ⟨t,rfl⟩ (ϕ9 h)
def Only (H:Hp):Prop:=∀b,H b=none∨∃o xs,H b=some (.frz o (.lst xs))
theorem ϵ_ {P:Program}{w:World}{K:PySem.W.Frag}{mg mb:Str→Option Value}{CX:CXT}{k:Nat}{fa a:Addr}{fd:FuncData}{x:Str}{sp:Sp}{s₁:Shared}{vs:List Value}{ns:List Int}
  (KX:K.In s₁.heap) (hns:s₁.heap.Ns mainGlobals mg) (hb:s₁.heap.Ns builtinsNs mb) (hbb:∀x:Str,x≠"__name__"→mb x=bootBuiltins x) (hlim:s₁.heap.NoLimit) (hg:s₁.gens=#[])
  (ha:s₁.heap.get? a=some { cls:=.type "list",data:=.seq vs.toArray }) (hi:IntsAre vs ns) (hl:ns.length≤sizeLine) (hr:Room k callerA)
  (F:∀base:Heap,K.In base→base.Ns mainGlobals mg→FnOk P w K mg base CX k fa fd [x] sp) (hbind:∀(s:Shared) (u:Value),BindsTo s fd ⟨[u],[]⟩ [(x,u)])
  (hsp:∀H:Hp,Only H→SqL K H a (ns.map V.int)→sp [.ref a] H (fun v _=>v=.bl true) fun _ _ _=>False)
  (hCX:∀H e s',CX [] H s₁ (fun _ _ _=>False) e s'→False) :
  codeAny (model P w) callerA (.call (.ref fa) ⟨[.ref a],[]⟩) (fun r s'=>r=.ok (.ret (.bool true))∧OldK s₁.heap s'.heap∧s'.os=s₁.os∧AllBare s'.gens) s₁:=by
 have rv:=ϕ9 hi
 have lenV:=hi.length
 have core:∀H:Hp,Only H→SqL K H a (ns.map V.int)→HOk P w H s₁.heap→(∀ b,H b≠none→b=a)→(H a≠none→K.lookup a=none) →
   codeAny (model P w) callerA (.call (.ref fa) ⟨[.ref a],[]⟩) (fun r s'=>r=.ok (.ret (.bool true))∧OldK s₁.heap s'.heap∧s'.os=s₁.os∧AllBare s'.gens) s₁:=by
  intro H hO hS hok hA hK
  have base_of:∀{b:Addr}{o:Obj},s₁.heap.get? b=some o→H b=none→(hidT s₁.heap H).get? b=some o:=fun e n=>ϵX e n
  have noA:∀{b:Addr}{o:Obj}{es:Array DictEntry}{ep:Nat},s₁.heap.get? b=some o→o.data=.dict es ep→H b=none:=fun {b o es ep} e d=>by
   cases q:H b with
   |none=>rfl
   |some u=>
    have e':b=a:=hA b (by rw[q];simp)
    subst e'
    rw[ha] at e;cases e
    have d':Data.seq vs.toArray _=Data.dict es ep:=d
    cases d'
  have nsK:∀{b:Addr}{m:Str→Option Value},s₁.heap.Ns b m→(hidT s₁.heap H).Ns b m:=fun {b m} ⟨o,es,ep,e,d,r⟩=>⟨o,es,ep,base_of e (noA e d),d,r⟩
  have hKb:K.In (hidT s₁.heap H):=fun b o e=>base_of (KX b o e) (by
   cases q:H b with
   |none=>rfl
   |some u=>
    have e':b=a:=hA b (by rw[q];simp)
    subst e'
    rw[hK (by rw[q];simp)] at e;cases e)
  have hM:Mod K mg (hidT s₁.heap H):=⟨hKb,nsK hns,⟨mb,nsK hb,hbb⟩,let ⟨mc,h1,h2⟩:=hlim;⟨mc,nsK h1,h2⟩⟩
  have e0:Env0 P w K mg (hidT s₁.heap H) callerA [] s₁ H:=⟨rfl,hM,fun b o e=>ϲH e,Nat.le_of_eq (ϵn _ _),trivial,fun b hb=>absurd (show b∈([]:List Addr) from hb) (by simp),hok,.of_eq hg⟩
  refine codeAny_mono ((F _ hKb (nsK hns)).run callerA [] s₁ H ⟨[.ref a],[]⟩ [.ref a] [.ref a] _ _ hr e0 (hbind s₁ (.ref a)) (.cons rfl .nil) (hsp H hO hS)) fun r s' h=>?_
  cases r with
  |error e=>exact(hCX H e s' h).elim
  |ok fl=>
   cases fl with
   |next=>exact False.elim h
   |brk=>exact False.elim h
   |cont=>exact False.elim h
   |ret u=>
    obtain⟨v,H',os,bare,un,hok',r',q⟩:=h
    have q':v=.bl true:=q
    subst q'
    obtain rfl:u=Value.bool true:=r'
    refine⟨rfl,OldK.of_keep fun b o e=>?_,os,bare⟩
    cases q:H b with
    |none=>exact un.keep b o e q (by intro z;exact absurd (show b∈([]:List Addr) from z) (by simp)) (by simp)
    |some u=>
     rcases hO b with z|⟨ob,xs,z⟩
     ·rw[q] at z;cases z
     ·have z2:=un.frzs b ob _ z
      obtain⟨e1,_⟩:=hok b _ z
      obtain⟨e2,_⟩:=hok' b _ z2
      rw[e] at e1;cases e1
      exact e2
 cases hk:K.lookup a with
 |some o=>
  have e:=KX a o hk
  rw[ha] at e
  cases e
  refine core (fun _=>none) (fun _=>.inl rfl) (.inr ⟨_,vs.toArray,_,hk,rfl,rfl,rfl,by rw[List.size_toArray,lenV];exact hl,by simpa using rv⟩) (fun b u z=>by have z':(none:Option HO)=some u:=z;cases z') (fun b z=>absurd rfl z) fun z=>absurd rfl z
 |none=>
  refine core (fun b=>if b=a then some (.frz { cls:=.type "list",data:=.seq vs.toArray } (.lst (ns.map V.int))) else none) (fun b=>?_) (.inl (.inr ⟨{ cls:=.type "list",data:=.seq vs.toArray },if_pos rfl⟩)) (fun b u z=>?_) (fun b z=>?_) fun _=>hk
  ·by_cases hb:b=a
   ·exact .inr ⟨_,_,if_pos hb⟩
   ·exact .inl (if_neg hb)
  ·by_cases hb:b=a
   ·have z':=(if_pos hb).symm.trans z
    cases z'
    subst hb
    exact⟨ha,by rw[List.length_map];exact hl,vs,_,rv,ha⟩
   ·have z':=(if_neg hb).symm.trans z
    cases z'
  ·by_cases hb:b=a
   ·exact hb
   ·exact absurd (if_neg hb) z
end L2
namespace L2
open PySem PySem.Spec PyProof.Rows
abbrev KOf {K:PySem.W.Frag}{h:Heap} (_:K.In h):PySem.W.Frag:=K
theorem walk_of {l:PySem.W.OpenLaw}{n k:Nat}{q:Program}{loose:List Str}{XP:(Str→Option Value)→Heap→Prop}{YP:World→Heap→Prop}{d:DefRec}{K:Params→PySem.W.Frag}{CX:World→CXT}{sp:World→Sp}{x:Str}
  (hn:l.most=some n) (hn2:n≤sizeLine) (hdf:d.params.defaults=[]) (hr:Room k callerA)
  (hY:∀(w:World) (h:Heap),YP w h→(K w.params).In h)
  (F:∀(w:World) (mg:Str→Option Value) (fa:Addr) (h:Heap),(K w.params).In h→h.Ns mainGlobals mg→mg d.name=some (.ref fa) →
   ∃fd:FuncData,(∀ (s:Shared) (u:Value),BindsTo s fd ⟨[u],[]⟩ [(x,u)]) ∧
    ∀base:Heap,(K w.params).In base→base.Ns mainGlobals mg→FnOk l.prog w (K w.params) mg base (CX w) k fa fd [x] (sp w))
  (hsp:∀(w:World) (H:Hp) (a:Addr) (ns:List Int),ns.length≤n→Only H→SqL (K w.params) H a (ns.map V.int)→sp w [.ref a] H (fun v _=>v=.bl true) fun _ _ _=>False)
  (hCX:∀(w:World) (H:Hp) (s:Shared) (e:Value) (s':Shared),CX w [] H s (fun _ _ _=>False) e s'→False) :
  PySem.W.WalkO q loose XP YP l.row.toRowW d [] (fun f vs=>PySem.call f vs):=by
 refine Att.attach_call hn hdf fun w s₀ s₁ mg mb fa o pm cd doc a vs ns G Y ho hd hcd hmg hobj hints hlen hg=>?_
 have KX:=hY w _ Y
 obtain⟨fd,hb,hF⟩:=F w mg fa _ KX G.T.g hmg
 exact ϵ_ KX G.T.g G.T.b G.T.builtins G.T.nolimit hg hobj hints (Nat.le_trans hlen hn2) hr hF hb (fun H hO hS=>hsp w H a ns hlen hO hS) fun H e s'=>hCX w H s₁ e s'
end L2
namespace L2
open PySem PySem.Spec PyProof.Rows
def ϖC (s:Stmt):Arguments:=match s with
 |.FunctionDef _ a _ _ _ _ _ _ _ _=>a
 |_=>{ posonlyargs:=[],args:=[],vararg:=none,kwonlyargs:=[],kw_defaults:=[],kwarg:=none,defaults:=[] }
def ϖB (s:Stmt):List Stmt:=match s with
 |.FunctionDef _ _ b _ _ _ _ _ _ _=>b
 |_=>[]
def ϖm (s:Stmt):Scope:=match s with
 |.FunctionDef _ _ _ _ _ _ sc _ _ _=>sc
 |_=>{ kind:=.function,names:=[],isGenerator:=false,isCoroutine:=false }
abbrev CX0:CXT:=fun _ _ _ _ _ _=>False
abbrev E0:XK:=fun _ _ _=>False
theorem pass0 {X:Cx}:ϱC CX0 X E0:=fun _ _ _ _ _ _ _ h=>h.elim
structure Fun (K:PySem.W.Frag) (x qual:Str) (st:Stmt) (f:Addr) (fd:FuncData):Prop where
 ex:∃(oc:Value) (od:Option Addr) (kV doc pm:Value) (an:Option Addr) (cdv ct:Value) (osl:Array (Option Value)),
  fd=PySem.W.fnOf x qual (ϖC st) (ϖB st) (ϖm st) .none kV doc pm an cdv ct∧K.lookup f=some ⟨oc,od,.func fd,osl⟩∧PySem.W.codeIn K cdv qual=true
 kp:PySem.W.keepIn K (.ref f)=true
section
variable {P:Program}{w:World}{K:PySem.W.Frag}{mg:Str→Option Value}{base:Heap}
theorem Fun.ok {x qual:Str}{st:Stmt}{f:Addr}{fd:FuncData}{N ps:List Str}{k:Nat}{sp:Sp} (F:Fun K x qual st f fd) (S:FnScope N ps (ϖm st)) (len:∀vs H Q E,sp vs H Q E→vs.length=ps.length)
  (hbody:∀(cdv:Value) (A:Around) (outer:List Env) (s:Shared) (H:Hp) (vs:List V) (Q:VK) (E:XK),Room k (A.deeper (envOfC qual (ϖm st) s.heap.objs.size f cdv))→sp vs H Q E →
   ∃t,PSs (cxOf CX0 P w K mg base N qual (ϖm st) f cdv A outer s H E).nox (ϖB st) t∧t { nx:=fun _ H'=>Q .non H',rt:=Q } (start N vs) H):FnOk P w K mg base CX0 (k+1) f fd ps sp:=by
 obtain⟨oc,od,kV,doc,pm,an,cdv,ct,osl,rfl,lk,hcd⟩:=F.ex
 refine fn_of lk hcd S len fun A outer s H vs Q E hr hsp=>?_
 obtain⟨t,h,q⟩:=hbody cdv A outer s H vs Q E hr hsp
 exact⟨t,h.nox,q⟩
theorem Fun.binds {x qual:Str}{st:Stmt}{f:Addr}{fd:FuncData}{ps:List Str} (F:Fun K x qual st f fd)
  (h:∀(kV doc pm:Value) (an:Option Addr) (cdv ct:Value) (us:List Value),us.length=ps.length→bindArgs (PySem.W.fnOf x qual (ϖC st) (ϖB st) (ϖm st) .none kV doc pm an cdv ct) ⟨us,[]⟩=pure (ps.zip us)):Binds K fd ps []:=by
 obtain⟨oc,od,kV,doc,pm,an,cdv,ct,osl,rfl,lk,hcd⟩:=F.ex
 exact .all (h kV doc pm an cdv ct)
theorem ϖ4 {x qual:Str}{st:Stmt}{f:Addr}{oc:Value}{od an:Option Addr}{osl:Array (Option Value)}{kV doc pm cdv ct:Value} (l:K.lookup f=some ⟨oc,od,.func (PySem.W.fnOf x qual (ϖC st) (ϖB st) (ϖm st) .none kV doc pm an cdv ct),osl⟩)
  (c:PySem.W.codeIn K cdv qual=true) (k:PySem.W.keepIn K (.ref f)=true):Fun K x qual st f (PySem.W.fnOf x qual (ϖC st) (ϖB st) (ϖm st) .none kV doc pm an cdv ct):=⟨⟨oc,od,kV,doc,pm,an,cdv,ct,osl,rfl,l,c⟩,k⟩
end
theorem ϑx {A:Around}{k:Nat} (hr:Room k A):A.units+1 < cLine:=Nat.lt_of_le_of_lt (Nat.add_le_add_left (by decide:1≤64) _) hr.units
section
variable {X:Cx}
theorem pv (i:Nat) {x:Str}{pos:Pos} (hN:X.N[i]?=some x:=by rfl) (hv:Vis X.env.scope x:=by first|exact Or.inl rfl|exact Or.inr (Or.inl rfl)|exact Or.inr (Or.inr rfl)) (hd:(x == ("__debug__":Str))=false:=by decide)
  (hcd:(x == ("__classdict__":Str))=false:=by decide):PE X (.Name x pos) (tVar i):=ϲl hN hv hd hcd
end
theorem iteF {A B:Prop} (h:B):if false=true then A else B:=by
 rw[if_neg Bool.false_ne_true]
 exact h
theorem iteT {A B:Prop} (h:A):if true=true then A else B:=by
 rw[if_pos rfl]
 exact h
def Same (H H':Hp):Prop:=∀b o,H b=some o→H' b=some o
theorem Same.refl (H:Hp):Same H H:=fun _ _ h=>h
theorem Same.trans {H H1 H2:Hp} (a:Same H H1) (b:Same H1 H2):Same H H2:=fun c o h=>b c o (a c o h)
theorem Same.free {H H':Hp} (e:Same H H') {l:Addr} (h:H' l=Option.none):H l=Option.none:=by
 cases q:H l with
 |none=>rfl
 |some o=>
  rw[e l o q] at h
  cases h
theorem Same.seq {K:PySem.W.Frag}{H H':Hp}{a:Addr}{xs:List V} (e:Same H H') (h:SqL K H a xs):SqL K H' a xs:=by
 rcases h with (h|⟨o,h⟩)|h
 ·exact .inl (.inl (e _ _ h))
 ·exact .inl (.inr ⟨o,e _ _ h⟩)
 ·exact .inr h
end L2
namespace Hd
open PySem PySem.W PySem.Calls PyProof.Rows
def bt:Nat→Nat→Nat→List Obj→BT
 |0,_,_,_=>.nil
 |f+1,a,b,l=>match l[b]? with
  |none=>.nil
  |some o=>.node o (bt f (2*a) (a+b) l) (bt f (2*a) (2*a+b) l)
theorem ϵC:∀(f a b:Nat) (l:List Obj) (i:Nat),0 < a→i < f→(bt f a b l).get i=l[b+a*i]?
 |0,_,_,_,_,_,h=>absurd h (Nat.not_lt_zero _)
 |f+1,a,b,l,i,ha,hi=>by
  unfold bt
  cases e:l[b]? with
  |none=>
   have h1:l.length≤b:=List.getElem?_eq_none_iff.mp e
   have h2:b≤b+a*i:=Nat.le_add_right _ _
   rw[List.getElem?_eq_none (by omega)]
   rfl
  |some o=>
   show(BT.node o _ _).get i=_
   rw[BT.get_node]
   by_cases h0:i=0
   ·subst h0;rw[if_pos rfl,Nat.mul_zero,Nat.add_zero,e]
   ·rw[if_neg h0]
    by_cases h1:i % 2=1
    ·rw[if_pos h1,ϵC f (2*a) (a+b) l (i / 2) (by omega) (by omega)]
     congr 1
     have e2:i=2*(i / 2)+1:=by omega
     calc a+b+2*a*(i / 2)=b+a*(2*(i / 2)+1):=by rw[Nat.mul_add,Nat.mul_one,← Nat.mul_assoc,Nat.mul_comm a 2];omega
      _=b+a*i:=by rw[← e2]
    ·rw[if_neg h1,ϵC f (2*a) (2*a+b) l (i / 2-1) (by omega) (by omega)]
     congr 1
     have e2:i=2*((i / 2-1)+1):=by omega
     calc 2*a+b+2*a*(i / 2-1)=b+a*(2*((i / 2-1)+1)):=by rw[← Nat.mul_assoc,Nat.mul_comm a 2,Nat.mul_add,Nat.mul_one];omega
      _=b+a*i:=by rw[← e2]
def toT (n:Nat) (s:Shared):SharedT:=⟨bt n 1 0 s.heap.objs.toList,n,s.heap.life,s.gens,s.drawn,s.toks,s.os⟩
theorem ϲo {n:Nat}{s:Shared} (h:s.heap.objs.size=n):(toT n s).abs=s:=by
 obtain⟨⟨objs,life⟩,g,d,k,os⟩:=s
 have e:absHeap (bt n 1 0 objs.toList) n life=⟨objs,life⟩:=by
  have q:(absHeap (bt n 1 0 objs.toList) n life).objs=objs:=by
   apply Array.ext_getElem?
   intro i
   rw[absHeap_at]
   by_cases hi:i < n
   ·rw[if_pos hi,ϵC n 1 0 _ i (by decide) hi,Nat.zero_add,Nat.one_mul]
    have:i < objs.size:=by rw[h];exact hi
    simp[this]
   ·rw[if_neg hi]
    exact(Array.getElem?_eq_none (by rw[h];omega)).symm
  show Heap.mk (absHeap (bt n 1 0 objs.toList) n life).objs life=_
  rw[q]
 show Shared.mk (absHeap (bt n 1 0 objs.toList) n life) g d k os=_
 rw[e]
abbrev body (p:Program) (env:Env):Code:=.body (behindTheImports p) env
abbrev base (fp:Pos):List Frame:=[topFrame fp]
def look {α:Type} (p q:Program) (loose:List Str) (Xt:Shared→Bool) (Yf:Shared→α) (H₀:Heap) (s:Shared):=
 ((staticsOk (importedModules p.main.body) H₀ s.heap && namesBound p s.heap && gensDone s && laidKept H₀ s.heap),openSeen q loose (importedModules p.main.body) Xt true s,Yf s)
theorem left_of {p q:Program}{loose:List Str}{Xt:Shared→Bool}{α:Type}{Yf:Shared→α}{Ya:World→α}{N m₀ k1 k2 k3 k4 n₁:Nat}{ann:Option Value}{env:Env}{fp p1 p2 p3:Pos}
  (e0:opening p=plainProg p.main.scope.names) (hN:Nat.ble 600 N=true) (f0:∀s,fenceModules? p s=some s)
  (size:∀w:World,((boot_heap w.params).isNs mainGlobals && (Array.mk ([]:List GenState)).size == 0,(boot_heap w.params).objs.size,(boot_heap w.params).nsMap mainGlobals "__annotations__")=(true,m₀,ann))
  (le:Nat.ble (k1+(k2+(k3+k4))) N=true)
  (h:∀w:World,(fun os=>(topGo treeTable p w m₀ ann k1 ⟨boot_heap w.params,Array.mk [],boot_drawn,boot_toks,os⟩ (topStub p)).map fun r=>(r.2,
    (segRun treeTable p w m₀ ann 1 k2 r.1 (blockOf (behindTheImports p) env (body p env) p1 (base fp))).map fun b=>((b.1,b.2.2,b.2.1.heap.objs.size),
     (segRunT treeTable p w m₀ ann 1 k3 (toT n₁ b.2.1) (piecesOf (behindTheImports p) env (body p env) p2 (base fp))).map fun c=>((c.1,c.2.2),
      (topRun treeTable p w m₀ ann k4 c.2.1.abs ⟨doneF .next,body p env,p3,base fp⟩).map (look p q loose Xt Yf (boot_heap w.params)))))) =
   fun _=>some (⟨denote treeTable (body p env),body p env,p1,base fp⟩,some ((.next,(body p env,p2),n₁),some ((.next,body p env,p3),some (true,openGood q loose,Ya w))))) :
  LeftO p q loose Xt Yf Ya N:=fun w=>by
 obtain⟨s0,a0,b0⟩:=Option.map_eq_some_iff.mp (boot_open e0 hN f0 w)
 obtain⟨hp,gs,d,k,os⟩:=s0
 obtain⟨rfl,rfl,rfl,rfl⟩:hp=boot_heap w.params∧gs=Array.mk []∧d=boot_drawn∧k=boot_toks:=by simpa using b0
 obtain⟨z1,z2,z3⟩:_∧_∧_:=by simpa only [Prod.mk.injEq] using size w
 obtain⟨⟨s1,t1⟩,h1,e1⟩:=Option.map_eq_some_iff.mp (congrFun (h w) os)
 obtain⟨rfl,e1⟩:=Prod.mk.inj e1
 obtain⟨⟨f2,s2,c2,q2⟩,h2,e2⟩:=Option.map_eq_some_iff.mp e1
 obtain⟨e2,e2'⟩:=Prod.mk.inj e2
 obtain⟨rfl,e2⟩:=Prod.mk.inj e2
 obtain⟨e2,hz⟩:=Prod.mk.inj e2
 obtain⟨rfl,rfl⟩:=Prod.mk.inj e2
 obtain⟨⟨f3,s3,c3,q3⟩,h3,e3⟩:=Option.map_eq_some_iff.mp e2'
 obtain⟨e3,e3'⟩:=Prod.mk.inj e3
 obtain⟨rfl,e3⟩:=Prod.mk.inj e3
 obtain⟨rfl,rfl⟩:=Prod.mk.inj e3
 obtain⟨s4,h4,e4⟩:=Option.map_eq_some_iff.mp e3'
 have h3':=segRun_of h3
 rw[ϲo hz] at h3'
 have h4':topRun treeTable p w m₀ ann (k3+k4) s2 (restOf (behindTheImports p++[]) env (body p env) _ [topFrame fp])=some s4:=piece_app h3' h4
 rw[List.append_nil] at h4'
 have r:=topRun_mono (N-(k1+(k2+(k3+k4)))) _ _ _ _ (go_top h1 (piece_block h2 h4'))
 rw[show k1+(k2+(k3+k4))+(N-(k1+(k2+(k3+k4))))=N by have:=Nat.le_of_ble_eq_true le;omega] at r
 obtain⟨l1,l2⟩:=Prod.mk.inj e4
 have t:topFrom treeTable p w N ⟨boot_heap w.params,Array.mk [],boot_drawn,boot_toks,os⟩=some s4:=by
  unfold topFrom
  dsimp only
  rw[z1,z2,z3,r]
  dsimp only[Option.bind_some]
  rw[l1]
 unfold openEnds
 rw[a0]
 show(topFrom treeTable p w N _).map _=_
 rw[t]
 exact congrArg some l2
end Hd
namespace Hd
open PySem PySem.W PySem.Calls PyProof.Rows
end Hd
namespace Hd
open PySem PySem.W PySem.Calls PyProof.Rows
end Hd
namespace L3
section
variable {α:Type}{r:α→α→Prop}
variable {T O X Y X1 X2 Y1 Y2:List α}
end
end L3
namespace L3
open PySem PyProof.Rows
section
variable {kd:SortKind}{κ:KeyKind}{prog:Program}{w:World}{A:Around}{E:Value→Shared→Prop}{s:Shared}
def ky (κ:KeyKind) (p:Keyed):κ.α:=(κ.keyOf p.1).getD κ.dflt
def Rk (κ:KeyKind) (p q:Keyed):Prop:=κ.kle (ky κ p) (ky κ q)
end
end L3
namespace L3
open PySem PyProof.Rows
section
variable {kd:SortKind}{κ:KeyKind}{prog:Program}{w:World}{A:Around}{E:Value→Shared→Prop}{s:Shared}
section
variable {a b o:Array Keyed}{ia ib:Nat}
end
end
end L3
namespace L3
open PySem PyProof.Rows
section
variable {kd:SortKind}{κ:KeyKind}{prog:Program}{w:World}{A:Around}{E:Value→Shared→Prop}{s:Shared}
section
variable {a b o:Array Keyed}{na nb:Nat}
end
end
end L3
namespace L3
open PySem PyProof.Rows
section
variable {kd:SortKind}{κ:KeyKind}{prog:Program}{w:World}{A:Around}{E:Value→Shared→Prop}{s:Shared}
end
end L3
namespace L3
open PySem PyProof.Rows
section
variable {kd:SortKind}{κ:KeyKind}{prog:Program}{w:World}{A:Around}{E:Value→Shared→Prop}{s:Shared}{a₀:Array Keyed}{pd:Array (Nat×Nat×Nat)}{F:Nat→Option Keyed}{lo:Nat}
end
end L3
namespace L3
open PySem PyProof.Rows
section
variable {kd:SortKind}{κ:KeyKind}{prog:Program}{w:World}{A:Around}{E:Value→Shared→Prop}{s:Shared}
def RunsAt (κ:KeyKind):Nat→List (Nat×Nat×Nat)→List (List Keyed)→Prop
 |_,[],[]=>True
 |o,p::ps,r::rs=>p.1=o∧p.2.1=r.length∧0 < r.length∧r.Pairwise (Rk κ)∧RunsAt κ (o+r.length) ps rs
 |_,_,_=>False
end
end L3
namespace L3
open PySem PyProof.Rows
section
variable {prog:Program}{w:World}{A:Around}{E:Value→Shared→Prop}{s:Shared}
end
end L3
namespace L2
open PySem PySem.Spec PyProof.Rows
section
variable {κ:Type} [DecidableEq κ]
def valV (kvs:List (κ×V)) (k:κ):Option V:=(kvs.find? fun kv=>decide (kv.1=k)).map (·.2)
def putK (kvs:List (κ×V)) (k:κ) (v:V):List (κ×V):=
 if (kvs.any fun kv=>decide (kv.1=k))=true then kvs.map (fun kv=>if kv.1=k then (kv.1,v) else kv) else kvs++[(k,v)]
theorem ϵT {k:κ}:valV ([]:List (κ×V)) k=none:=rfl
theorem ϖ7 {p:κ×V}{r:List (κ×V)}{k:κ} (e:p.1=k):valV (p::r) k=some p.2:=by simp[valV,List.find?_cons,e]
theorem ϖ2 {p:κ×V}{r:List (κ×V)}{k:κ} (e:¬ p.1=k):valV (p::r) k=valV r k:=by simp[valV,List.find?_cons,e]
theorem ϕD (k:κ):∀kvs:List (κ×V),(kvs.any fun kv=>decide (kv.1=k))=(valV kvs k).isSome
 |[]=>rfl
 |p::r=>by
  rw[List.any_cons]
  by_cases e:p.1=k
  ·simp only[ϖ7 e,decide_eq_true e,Bool.true_or,Option.isSome_some]
  ·rw[ϖ2 e,decide_eq_false e,Bool.false_or];exact ϕD k r
theorem ϱI (k j:κ) (y:V):∀kvs:List (κ×V),valV (kvs.map fun kv=>if kv.1=k then (kv.1,y) else kv) j=(valV kvs j).map fun x=>if j=k then y else x
 |[]=>rfl
 |p::r=>by
  have ih:=ϱI k j y r
  rw[List.map_cons]
  by_cases h:p.1=k
  ·rw[if_pos h]
   by_cases e:p.1=j
   ·rw[ϖ7 (p:=(p.1,y)) e,ϖ7 e,Option.map_some,if_pos (e.symm.trans h)]
   ·rw[ϖ2 (p:=(p.1,y)) e,ϖ2 e,ih]
  ·rw[if_neg h]
   by_cases e:p.1=j
   ·rw[ϖ7 (p:=p) e,ϖ7 e,Option.map_some,if_neg (fun z=>h (e.trans z))]
   ·rw[ϖ2 (p:=p) e,ϖ2 e,ih]
theorem ϰY (k j:κ) (y:V):∀kvs:List (κ×V),valV kvs k=none→valV (kvs++[(k,y)]) j=if j=k then some y else valV kvs j
 |[],_=>by
  by_cases e:k=j
  ·rw[if_pos e.symm];exact ϖ7 (p:=(k,y)) e
  ·rw[if_neg (fun z=>e z.symm)];exact ϖ2 (p:=(k,y)) e
 |p::r,hn=>by
  rw[List.cons_append]
  have hk:¬ p.1=k:=fun z=>by rw[ϖ7 z] at hn;cases hn
  rw[ϖ2 hk] at hn
  have ih:=ϰY k j y r hn
  by_cases e:p.1=j
  ·rw[ϖ7 e,ϖ7 e,if_neg (fun z=>hk (e.trans z))]
  ·rw[ϖ2 e,ϖ2 e,ih]
theorem ϑ1 (kvs:List (κ×V)) (k j:κ) (y:V):valV (putK kvs k y) j=if j=k then some y else valV kvs j:=by
 unfold putK
 by_cases a:(kvs.any fun kv=>decide (kv.1=k))=true
 ·rw[if_pos a,ϱI]
  rw[ϕD] at a
  by_cases e:j=k
  ·obtain⟨x,hx⟩:=Option.isSome_iff_exists.mp a
   rw[if_pos e,e,hx,Option.map_some,if_pos rfl]
  ·rw[if_neg e]
   cases valV kvs j with
   |none=>rfl
   |some x=>rw[Option.map_some,if_neg e]
 ·rw[if_neg a]
  refine ϰY k j y kvs ?_
  rw[ϕD] at a
  cases q:valV kvs k with
  |none=>rfl
  |some x=>rw[q] at a;exact(a rfl).elim
theorem ϑd (kvs:List (κ×V)) (k:κ) (v:V):(putK kvs k v).length≤kvs.length+1:=by
 unfold putK
 split
 ·rw[List.length_map];omega
 ·rw[List.length_append,List.length_cons,List.length_nil];omega
theorem ϕ3 {kvs:List (κ×V)}{k:κ} (v:V) (h:valV kvs k=none):putK kvs k v=kvs++[(k,v)]:=by
 unfold putK
 rw[ϕD,h]
 exact if_neg (by decide)
theorem RelO.isSome_eq {o:Option V}{u:Option Value} (r:RelO o u):o.isSome=u.isSome:=by
 cases o with
 |none=>cases u with
  |none=>rfl
  |some _=>exact(show False from r).elim
 |some _=>cases u with
  |none=>exact(show False from r).elim
  |some _=>rfl
theorem RelO.getD {o:Option V}{u:Option Value}{d:V}{d':Value} (r:RelO o u) (rd:RelV d d'):RelV (o.getD d) (u.getD d'):=by
 cases o with
 |none=>cases u with
  |none=>exact rd
  |some _=>exact(show False from r).elim
 |some _=>cases u with
  |none=>exact(show False from r).elim
  |some _=>exact r
theorem KV.val {kvs:List (κ×V)}{vs:List (κ×Value)} (r:KV kvs vs) (k:κ):RelO (valV kvs k) (valueAt vs k):=by
 unfold KV at r
 induction r with
 |nil=>exact True.intro
 |@cons p q ps qs h t ih=>
  obtain⟨h1,h2⟩:=h
  by_cases e:p.1=k
  ·have e':q.1=k:=h1.symm.trans e
   have b:valueAt (q::qs) k=some q.2:=by simp[valueAt,List.find?_cons,e']
   rw[ϖ7 e,b];exact h2
  ·have e':¬ q.1=k:=fun z=>e (h1.trans z)
   have b:valueAt (q::qs) k=valueAt qs k:=by simp[valueAt,List.find?_cons,e']
   rw[ϖ2 e,b];exact ih
theorem KV.any {kvs:List (κ×V)}{vs:List (κ×Value)} (r:KV kvs vs) (k:κ):(kvs.any fun kv=>decide (kv.1=k))=vs.any fun kv=>decide (kv.1=k):=by
 unfold KV at r
 induction r with
 |nil=>rfl
 |cons h t ih=>rw[List.any_cons,List.any_cons,ih,h.1]
theorem KV.repl {kvs:List (κ×V)}{vs:List (κ×Value)} (r:KV kvs vs) (k:κ) {y:V}{u:Value} (ry:RelV y u) :
  KV (kvs.map fun kv=>if kv.1=k then (kv.1,y) else kv) (vs.map fun kv=>if kv.1=k then (kv.1,u) else kv):=by
 unfold KV at r⊢
 induction r with
 |nil=>exact .nil
 |@cons p q ps qs h t ih=>
  rw[List.map_cons,List.map_cons]
  refine .cons ?_ ih
  obtain⟨h1,h2⟩:=h
  by_cases e:p.1=k
  ·rw[if_pos e,if_pos (h1.symm.trans e)];exact⟨h1,ry⟩
  ·rw[if_neg e,if_neg (fun z=>e (h1.trans z))];exact⟨h1,h2⟩
theorem KV.put {kvs:List (κ×V)}{vs:List (κ×Value)} (r:KV kvs vs) (k:κ) {y:V}{u:Value} (ry:RelV y u):KV (putK kvs k y) (stored vs k u):=by
 unfold putK stored
 rw[r.any k]
 by_cases e:(vs.any fun kv=>decide (kv.1=k))=true
 ·rw[if_pos e,if_pos e];exact r.repl k ry
 ·rw[if_neg e,if_neg e];exact Paired.snoc r ⟨rfl,ry⟩
theorem KV.length {kvs:List (κ×V)}{vs:List (κ×Value)} (r:KV kvs vs):kvs.length=vs.length:=Paired.length r
end
theorem ϱq {P:Program}{w:World}{k:Key}{u:Value} (r:RelV (kV k) u):(ϖV P w).is k u=true:=by
 cases k with
 |inl i=>obtain⟨t,e⟩:=(show ∃t,u=Value.int i t from r);subst e;exact ϱh P w i t
 |inr x=>obtain⟨t,e⟩:=(show ∃t,u=Value.str x t from r);subst e;exact ϱg P w x t
theorem ϰ1 {P:Program}{w:World}:∀{ks:List Key}{us:List Value},Vals (ks.map kV) us→ItemsAre (ϖV P w) ks us
 |[],_,r=>by rw[List.map_nil] at r;cases r;exact .nil
 |k::ks,_,r=>by
  rw[List.map_cons] at r
  cases r with
  |cons h t=>exact .cons (ϱq h) (ϰ1 t)
abbrev KT (H:Hp):List (List Key×V)→List (List Key×Addr×Value)→Prop:=Paired fun p q=>p.1=q.1∧H q.2.1=some (.tup (p.1.map kV))∧RelV p.2 q.2.2
theorem KT.val {H:Hp}{kvs:List (List Key×V)}{xs:List (List Key×Addr×Value)} (r:KT H kvs xs) (k:List Key):RelO (valV kvs k) ((atKey xs k).map (·.2)):=by
 induction r with
 |nil=>exact True.intro
 |@cons p q ps qs h t ih=>
  obtain⟨h1,_,h2⟩:=h
  by_cases e:p.1=k
  ·have e':q.1=k:=h1.symm.trans e
   have b:atKey (q::qs) k=some q.2:=by simp[atKey,List.find?_cons,e']
   rw[ϖ7 e,b];exact h2
  ·have e':¬ q.1=k:=fun z=>e (h1.trans z)
   have b:atKey (q::qs) k=atKey qs k:=by simp[atKey,List.find?_cons,e']
   rw[ϖ2 e,b];exact ih
theorem KT.repl {H:Hp}{kvs:List (List Key×V)}{xs:List (List Key×Addr×Value)} (r:KT H kvs xs) (k:List Key) {y:V}{u:Value} (ry:RelV y u) :
  KT H (kvs.map fun kv=>if kv.1=k then (kv.1,y) else kv) (xs.map (putAt k u)):=by
 induction r with
 |nil=>exact .nil
 |@cons p q ps qs h t ih=>
  rw[List.map_cons,List.map_cons]
  refine .cons ?_ ih
  obtain⟨h1,h2,h3⟩:=h
  unfold putAt
  by_cases e:p.1=k
  ·rw[if_pos e,if_pos (h1.symm.trans e)];exact⟨h1,h2,ry⟩
  ·rw[if_neg e,if_neg (fun z=>e (h1.trans z))];exact⟨h1,h2,h3⟩
theorem KT.put {H:Hp}{kvs:List (List Key×V)}{xs:List (List Key×Addr×Value)} (r:KT H kvs xs) (k:List Key) {b:Addr}{y:V}{u:Value} (hb:H b=some (.tup (k.map kV))) (ry:RelV y u) :
  KT H (putK kvs k y) (storedH xs k b u):=by
 have e:(kvs.any fun kv=>decide (kv.1=k))=(atKey xs k).isSome:=by
  rw[ϕD,(r.val k).isSome_eq,Option.isSome_map]
 unfold putK storedH
 rw[e]
 by_cases q:(atKey xs k).isSome=true
 ·rw[if_pos q,if_pos q];exact r.repl k ry
 ·rw[if_neg q,if_neg q];exact Paired.snoc r ⟨rfl,hb,ry⟩
theorem KT.keeps {H H':Hp}{kvs:List (List Key×V)}{xs:List (List Key×Addr×Value)} (r:KT H kvs xs) (ht:∀b ys,H b=some (.tup ys)→H' b=some (.tup ys)):KT H' kvs xs:=
 Paired.mapP r fun _ _ z=>⟨z.1,ht _ _ z.2.1,z.2.2⟩
section
variable {P:Program}{w:World}{H:Hp}{h:Heap}{a:Addr}
theorem rd_of {u:HO} (ok:HOk P w H h) (e:Rd H a u):ObjOk P w H h a u:=e.ok ok
theorem ϱU {kvs:List (Key×V)} (ok:HOk P w H h) (e:Rd H a (.dK kvs)):kvs.length≤sizeLine∧(a == sysModules)=false∧∃vs,KV kvs vs∧h.DictOf (ϖV P w) a vs:=
 show ObjOk P w H h a (.dK kvs) from rd_of ok e
theorem dk_of {kvs:List (Key×V)} (ok:HOk P w H h) (e:H a=some (.dK kvs)):kvs.length≤sizeLine∧(a == sysModules)=false∧∃vs,KV kvs vs∧h.DictOf (ϖV P w) a vs:=ϱU ok (.inl e)
theorem ϰd {ks:List Key} (ok:HOk P w H h) (e:H a=some (.tup (ks.map kV))):(tupleKind (ϖV P w)).is h ks a:=by
 obtain⟨_,its,r,o,h1,h2,n,h3⟩:=(show ObjOk P w H h a (.tup (ks.map kV)) from ok a _ e)
 exact⟨o,its.toArray,n,h1,h2,h3,by simpa using ϰ1 r⟩
theorem ϱY {kvs:List (List Key×V)} (ok:HOk P w H h) (e:Rd H a (.dT kvs)):kvs.length≤sizeLine∧(a == sysModules)=false ∧
  ∃xs,KT H kvs xs∧h.DictOfH (tupleKind (ϖV P w)) a xs:=by
 obtain⟨z,y,xs,r,o,es,ep,h1,h2,h3,h4,h5⟩:=(show ObjOk P w H h a (.dT kvs) from rd_of ok e)
 refine⟨z,y,xs,r,o,es,ep,h1,h2,h3,h4,fun x hx=>?_,h5⟩
 have all:∀{l:List (List Key×V)}{m:List (List Key×Addr×Value)},KT H l m→∀x∈m,(tupleKind (ϖV P w)).is h x.1 x.2.1:=by
  intro l m q
  induction q with
  |nil=>intro x hx;exact nomatch hx
  |@cons p q ps qs hq t ih=>
   intro x hx
   rcases List.mem_cons.mp hx with e|hx
   ·subst e
    exact ϰd ok (by rw[← hq.1];exact hq.2.1)
   ·exact ih x hx
 exact all r x hx
theorem dt_of {kvs:List (List Key×V)} (ok:HOk P w H h) (e:H a=some (.dT kvs)):kvs.length≤sizeLine∧(a == sysModules)=false ∧
  ∃xs,KT H kvs xs∧h.DictOfH (tupleKind (ϖV P w)) a xs:=ϱY ok (.inl e)
end
def DGet (H:Hp) (a:Addr) (y:V) (r:Option V):Prop:=
 (∃ kvs k,Rd H a (.dK kvs)∧y=kV k∧r=valV kvs k)∨∃kvs k b,Rd H a (.dT kvs)∧y=.ref b∧H b=some (.tup (k.map kV))∧r=valV kvs k
def DPut (H:Hp) (a:Addr) (y v:V) (H':Hp):Prop:=
 (∃ kvs k,H a=some (.dK kvs)∧y=kV k∧kvs.length < sizeLine∧H'=upd H a (.dK (putK kvs k v))) ∨
 ∃kvs k b,H a=some (.dT kvs)∧y=.ref b∧H b=some (.tup (k.map kV))∧kvs.length < sizeLine∧H'=upd H a (.dT (putK kvs k v))
theorem DGet.k {H:Hp}{a:Addr}{kvs:List (Key×V)}{k:Key} (e:H a=some (.dK kvs)):DGet H a (kV k) (valV kvs k):=.inl ⟨kvs,k,.inl e,rfl,rfl⟩
theorem DGet.t {H:Hp}{a b:Addr}{kvs:List (List Key×V)}{k:List Key} (e:H a=some (.dT kvs)) (eb:H b=some (.tup (k.map kV))):DGet H a (.ref b) (valV kvs k):=.inr ⟨kvs,k,b,.inl e,rfl,eb,rfl⟩
theorem DPut.k {H:Hp}{a:Addr}{kvs:List (Key×V)}{k:Key}{v:V} (e:H a=some (.dK kvs)) (hl:kvs.length < sizeLine):DPut H a (kV k) v (upd H a (.dK (putK kvs k v))):=.inl ⟨kvs,k,e,rfl,hl,rfl⟩
theorem DPut.t {H:Hp}{a b:Addr}{kvs:List (List Key×V)}{k:List Key}{v:V} (e:H a=some (.dT kvs)) (eb:H b=some (.tup (k.map kV))) (hl:kvs.length < sizeLine) :
  DPut H a (.ref b) v (upd H a (.dT (putK kvs k v))):=.inr ⟨kvs,k,b,e,rfl,eb,hl,rfl⟩
section
variable {X:Cx}{pins:List (Addr×Obj)}{σ:St}{H:Hp}{s:Shared}{a:Addr}{y v:V}{u r:Value}{o:Option V}{A:Around}{E:Value→Shared→Prop}
theorem Inv.big (I:Inv X pins σ H s):sysModules < s.heap.objs.size:=by
 have h:mainGlobals < s.heap.objs.size:=(I.mod.glob.keeps I.bk).lt
 exact Nat.lt_trans (by decide) h
theorem ϱ3 {Q:Value→Shared→Prop} (hu:A.units+1 < cLine) (I:Inv X pins σ H s) (g:DGet H a y (some v)) (ry:RelV y u) (h:∀w' s',Inv X pins σ H s'→RelV v w'→Q w' s') :
  wpAny (model X.prog X.w) A (getItem (.ref a) u) Q E s:=by
 rcases g with⟨kvs,k,e,ey,l⟩|⟨kvs,k,b,e,ey,eb,l⟩
 ·subst ey
  obtain⟨z,hd,vs,rel,dd⟩:=ϱU I.hok e
  obtain⟨w',hw,rw'⟩:=RelO.some_of (v:=v) (o:=valueAt vs k) (by rw[l];exact rel.val k)
  exact wpAny_getItem_of (ϱq ry) dd.mapOf hw (h w' _ (I.tok _) rw')
 ·subst ey
  cases (show u=Value.ref b from ry)
  obtain⟨z,hd,xs,rel,dd⟩:=ϱY I.hok e
  obtain⟨w',hw,rw'⟩:=RelO.some_of (v:=v) (o:=(atKey xs k).map (·.2)) (by rw[l];exact rel.val k)
  obtain⟨p,hp,hp2⟩:=Option.map_eq_some_iff.mp hw
  refine wpAny_getItem_heap (tupleKind_room_in1 hu) (ϰd I.hok eb) dd hp ?_
  rw[hp2]
  exact h w' _ (I.tok _) rw'
theorem d_in {Q:Value→Shared→Prop} (hu:A.units+1 < cLine) (I:Inv X pins σ H s) (g:DGet H a y o) (ry:RelV y u) (h:∀s',Inv X pins σ H s'→Q (.bool o.isSome) s') :
  wpAny (model X.prog X.w) A (compareOp .In u (.ref a)) Q E s:=by
 rcases g with⟨kvs,k,e,ey,l⟩|⟨kvs,k,b,e,ey,eb,l⟩
 ·subst ey
  obtain⟨z,hd,vs,rel,dd⟩:=ϱU I.hok e
  refine wpAny_in_of (ϱq ry) hd dd.mapOf ?_
  rw[← (rel.val k).isSome_eq,← l]
  exact h _ (I.tok _)
 ·subst ey
  cases (show u=Value.ref b from ry)
  obtain⟨z,hd,xs,rel,dd⟩:=ϱY I.hok e
  refine wpAny_in_heap (tupleKind_room_in1 hu) (ϰd I.hok eb) hd dd ?_
  have q:=(rel.val k).isSome_eq
  rw[Option.isSome_map] at q
  rw[← q,← l]
  exact h _ (I.tok _)
theorem ϲC {Q:Value→Shared→Prop} (hu:A.units+1 < cLine) (I:Inv X pins σ H s) (g:DGet H a y o) (ry:RelV y u) (h:∀s',Inv X pins σ H s'→Q (.bool (!o.isSome)) s') :
  wpAny (model X.prog X.w) A (compareOp .NotIn u (.ref a)) Q E s:=by
 rcases g with⟨kvs,k,e,ey,l⟩|⟨kvs,k,b,e,ey,eb,l⟩
 ·subst ey
  obtain⟨z,hd,vs,rel,dd⟩:=ϱU I.hok e
  refine wpAny_notIn_of (ϱq ry) hd dd.mapOf ?_
  rw[← (rel.val k).isSome_eq,← l]
  exact h _ (I.tok _)
 ·subst ey
  cases (show u=Value.ref b from ry)
  obtain⟨z,hd,xs,rel,dd⟩:=ϱY I.hok e
  refine wpAny_notIn_heap (tupleKind_room_in1 hu) (ϰd I.hok eb) hd dd ?_
  have q:=(rel.val k).isSome_eq
  rw[Option.isSome_map] at q
  rw[← q,← l]
  exact h _ (I.tok _)
theorem ϰt {h':Heap}{t':Nat}{ob:HO} (I:Inv X pins σ H s) (mu:Mut (H a)) (hs:Heap.SameBut a s.heap h') (he:∃q,h'.get? a=some q) (new:ObjOk X.prog X.w (upd H a ob) h' a ob) :
  Inv X pins σ (upd H a ob) { s with heap:=h',toks:=t' }:=
 I.write (x:=a) (e:=a) mu (.inl rfl) (fun b q hb z=>(hs.2 b hb).trans z) he new
theorem ϲj {P:Program}{w:World}{H':Hp}{h':Heap}{kvs:List (Key×V)}{vs:List (Key×Value)} (z:kvs.length≤sizeLine) (hd:(a == sysModules)=false) (rel:KV kvs vs) (dd:h'.DictOf (ϖV P w) a vs) :
  ObjOk P w H' h' a (.dK kvs):=⟨z,hd,vs,rel,dd⟩
theorem ϵD {H':Hp}{Q:Unit→Shared→Prop} (hu:A.units+1 < cLine) (I:Inv X pins σ H s) (g:DPut H a y v H') (ry:RelV y u) (rv:RelV v r) (h:∀s',Inv X pins σ H' s'→Q () s') :
  wpAny (model X.prog X.w) A (setItem (.ref a) u r) Q E s:=by
 rcases g with⟨kvs,k,e,ey,l,eH⟩|⟨kvs,k,b,e,ey,eb,l,eH⟩
 ·subst ey eH
  obtain⟨z,hd,vs,rel,dd⟩:=dk_of I.hok e
  have hz:vs.length≤sizeLine:=by rw[← rel.length];exact z
  have hl:(putK kvs k v).length≤sizeLine:=by have:=ϑd kvs k v;omega
  refine wpAny_setItem_pairs (hsz:=hz) (ϱq ry) dd fun h' dd' hs=>h _ ?_
  have he:∃q,h'.get? a=some q:=let ⟨q,_,_,hq,_⟩:=dd';⟨q,hq⟩
  exact ϰt I (by rw[e];exact True.intro) hs he (ϲj hl hd (rel.put k rv) dd')
 ·subst ey eH
  cases (show u=Value.ref b from ry)
  obtain⟨z,hd,xs,rel,dd⟩:=dt_of I.hok e
  have hz:xs.length≤sizeLine:=by rw[← Paired.length rel];exact z
  have hl:(putK kvs k v).length≤sizeLine:=by have:=ϑd kvs k v;omega
  refine wpAny_setItem_heap (hsz:=hz) (tupleKind_room_in1 hu) (ϰd I.hok eb) dd fun h' dd' hs=>h _ ?_
  obtain⟨q,es,ep,hq,h2,h3,h4,_,h5⟩:=dd'
  refine ϰt I (by rw[e];exact True.intro) hs ⟨q,hq⟩ ⟨hl,hd,_,(rel.put k eb rv).keeps fun c ys ec=>?_,q,es,ep,hq,h2,h3,h4,h5⟩
  rw[ϖs (ne_of ec e (fun z=>nomatch z))]
  exact ec
end
section
variable {X:Cx}{pins:List (Addr×Obj)}{σ:St}{H:Hp}{s:Shared}{a:Addr}{kvs:List (Key×V)}{k:Key}{u:Value}{A:Around}{E:Value→Shared→Prop}
end
def NoSl (i:Expr):Prop:=∀ov iv,subscripted i false ov iv=operate [ov,iv] (getItem ov iv)
theorem ϲU {prog:Program}{w:World}{A:Around}{E:Value→Shared→Prop}{s:Shared}{env:Env}{value slice:Expr}{pos:Pos}{T id:String}{Q:Value→Shared→Prop}
  (hl:typeLookup (.type T) "__getitem__"=pure (some (.builtin id))) (hs:NoSl slice)
  (h:wpAny (model prog w) A (eval value env) (fun o s₁=>wpAny (model prog w) A (eval slice env) (fun i s₂=>s₂.TypeIs o T∧wpAny (model prog w) A (getItem o i) Q E s₂) E s₁) E s) :
  wpAny (model prog w) A (eval (.Subscript value slice pos) env) Q E s:=by
 refine Subscript_ (wpAny_mono h (fun o s₁ h₁=>wpAny_mono h₁ (fun i s₂ h₂=>?_) fun _ _ x=>x) fun _ _ x=>x)
 obtain⟨hT,h₂⟩:=h₂
 unfold subscriptTail
 refine wpAny_bind ?_
 rw[getitemInPython_of_ne hT.not_modules]
 refine wpAny_bind (wpAny_specialOf hT hl ?_)
 have fin:wpAny (model prog w) A (subscripted slice false o i) (fun r s₃=>wpAny (model prog w) A (letTemporaryGo value o r >>= fun _=>pure r) Q E s₃) E s₂:=by
  rw[hs o i]
  exact wpAny_operating (wpAny_mono h₂ (fun r s₃ h₃=>wpAny_bind (wpAny_letTemporaryGo (wpAny_pure h₃))) fun _ _ x=>x)
 first
  |exact wpAny_pure (wpAny_bind fin)
  |exact wpAny_bind (wpAny_pure (wpAny_bind fin))
  |exact wpAny_bind fin
theorem ϱr {X:Cx}{pins:List (Addr×Obj)}{σ:St}{H:Hp}{s:Shared}{a:Addr}{y:V}{o:Option V} (I:Inv X pins σ H s) (g:DGet H a y o):s.TypeIs (.ref a) "dict":=by
 rcases g with⟨kvs,k,e,_,_⟩|⟨kvs,k,b,e,_,_,_⟩
 ·obtain⟨_,_,vs,_,dd⟩:=ϱU I.hok e
  exact dd.typeIs
 ·obtain⟨_,_,xs,_,dd⟩:=ϱY I.hok e
  exact dd.typeIs
def tDGet (td ty:TE):TE:=fun σ H Q=>td σ H fun x H1=>ty σ H1 fun y H2=>∃a v,x=.ref a∧DGet H2 a y (some v)∧Q v H2
def tDIn (ty td:TE):TE:=fun σ H Q=>ty σ H fun y H1=>td σ H1 fun x H2=>∃a o,x=.ref a∧DGet H2 a y o∧Q (.bl o.isSome) H2
def ϲF (ty td:TE):TE:=fun σ H Q=>ty σ H fun y H1=>td σ H1 fun x H2=>∃a o,x=.ref a∧DGet H2 a y o∧Q (.bl (!o.isSome)) H2
def sDPut (td ty tv:TE):TS:=fun D σ H=>tv σ H fun v H1=>td σ H1 fun x H2=>ty σ H2 fun y H3=>∃a H4,x=.ref a∧DPut H3 a y v H4∧D.nx σ H4
section
variable {X:Cx}{o i e value:Expr}{pos pos' tpos:Pos}{td ty tv:TE}
theorem ϑv (hu:X.A.units+1 < cLine) (ho:PE X o td) (hi:PE X i ty) (hs:NoSl i):PE X (.Subscript o i pos) (tDGet td ty):=by
 intro pins s σ H Q I h
 refine ϲU PySem.F.slot_dict_getitem.lookup hs (thn (ho pins s σ H _ I h) fun u s1 ⟨x,H1,I1,rx,q1⟩=>thn (hi pins s1 σ H1 _ I1 q1) fun iv s2 ⟨y,H2,I2,ry,a,v,ex,g,q2⟩=>?_)
 subst ex
 obtain rfl:u=Value.ref a:=rx
 exact⟨ϱr I2 g,ϱ3 hu I2 g ry fun w' s3 I3 rw'=>⟨v,H2,I3,rw',q2⟩⟩
theorem ϱO (hu:X.A.units+1 < cLine) (hi:PE X i ty) (ho:PE X o td):PC X .In i o (tDIn ty td):=by
 intro pins s σ H Q I h
 refine thn (hi pins s σ H _ I h) fun iv s1 ⟨y,H1,I1,ry,q1⟩=>thn (ho pins s1 σ H1 _ I1 q1) fun u s2 ⟨x,H2,I2,rx,a,ov,ex,g,q2⟩=>?_
 subst ex
 obtain rfl:u=Value.ref a:=rx
 exact d_in hu I2 g ry fun s3 I3=>⟨.bl ov.isSome,H2,I3,rfl,q2⟩
theorem ϰ0 (hu:X.A.units+1 < cLine) (hi:PE X i ty) (ho:PE X o td):PC X .NotIn i o (ϲF ty td):=by
 intro pins s σ H Q I h
 refine thn (hi pins s σ H _ I h) fun iv s1 ⟨y,H1,I1,ry,q1⟩=>thn (ho pins s1 σ H1 _ I1 q1) fun u s2 ⟨x,H2,I2,rx,a,ov,ex,g,q2⟩=>?_
 subst ex
 obtain rfl:u=Value.ref a:=rx
 exact ϲC hu I2 g ry fun s3 I3=>⟨.bl (!ov.isSome),H2,I3,rfl,q2⟩
theorem ϕy (hu:X.A.units+1 < cLine) (ho:PE X o td) (hi:PE X i ty) (hv:PE X value tv) (hs:swapsWith value (some (.Subscript o i pos')) pos.line X.env=pure false) :
  PS X (.Assign [.Subscript o i pos'] value pos) (sDPut td ty tv):=by
 intro pins s σ H D I h
 refine wpAny_Assign_Subscript (thn (hv pins s σ H _ I h) fun r s1 ⟨v,H1,I1,rv,q1⟩=>thn (ho pins s1 σ H1 _ I1 q1) fun u s2 ⟨x,H2,I2,rx,q2⟩=>thn (hi pins s2 σ H2 _ I2 q2) fun iv s3 ⟨y,H3,I3,ry,a,H4,ex,g,q3⟩=>?_) hs
 subst ex
 obtain rfl:u=Value.ref a:=rx
 exact ϵD hu I3 g ry rv fun s4 I4=>⟨σ,H4,I4,q3⟩
end
theorem ϵ0 {P:Program}{w:World}{H:Hp} (h:Heap) (hb:sysModules < h.objs.size):ObjOk P w H (h.push { cls:=.type "dict",data:=.dict #[] }) h.objs.size (.dK []):=
 ⟨Nat.zero_le _,beq_eq_false_iff_ne.mpr (Ne.symm (Nat.ne_of_lt hb)),[],.nil,Heap.DictOf.new h⟩
theorem ϵO {P:Program}{w:World}{H:Hp} (h:Heap) (hb:sysModules < h.objs.size):ObjOk P w H (h.push { cls:=.type "dict",data:=.dict #[] }) h.objs.size (.dT []):=
 ⟨Nat.zero_le _,beq_eq_false_iff_ne.mpr (Ne.symm (Nat.ne_of_lt hb)),[],.nil,_,#[],0,Heap.get?_push_size _ rfl,⟨rfl,rfl,rfl⟩,rfl,rfl,List.nodup_nil⟩
def tDNewK:TE:=fun _ H Q=>∀p,H p=none→Q (.ref p) (upd H p (.dK []))
def tDNewT:TE:=fun _ H Q=>∀p,H p=none→Q (.ref p) (upd H p (.dT []))
section
variable {X:Cx}{pos:Pos}
theorem ϰA:PE X (.Dict [] [] pos) tDNewK:=fun pins s σ H Q I h=>
 wpAny_Dict_empty ⟨.ref s.heap.objs.size,_,I.laid (a:=s.heap.objs.size) (o:=.dK []) (t':=s.toks) (fun _ _ q=>Heap.get?_push_of_some _ q) (Nat.le_refl _) (ϵ0 s.heap I.big),rfl,h _ (I.hok.fresh (Nat.le_refl _))⟩
theorem ϕE:PE X (.Dict [] [] pos) tDNewT:=fun pins s σ H Q I h=>
 wpAny_Dict_empty ⟨.ref s.heap.objs.size,_,I.laid (a:=s.heap.objs.size) (o:=.dT []) (t':=s.toks) (fun _ _ q=>Heap.get?_push_of_some _ q) (Nat.le_refl _) (ϵO s.heap I.big),rfl,h _ (I.hok.fresh (Nat.le_refl _))⟩
end
def tPairs:List (TE×TE)→St→Hp→(List (V×V)→Hp→Prop)→Prop
 |[],_,H,Q=>Q [] H
 |(tk,tv)::r,σ,H,Q=>tk σ H fun x H1=>tv σ H1 fun y H2=>tPairs r σ H2 fun ps H3=>Q ((x,y)::ps) H3
section
variable {X:Cx}{pins:List (Addr×Obj)}{σ:St}{H:Hp}{s:Shared}{a:Addr}{y d:V}{u r:Value}{o:Option V}{A:Around}{E:Value→Shared→Prop}
theorem d_get2 {Q:Value→Shared→Prop} (hu:A.units+1 < cLine) (I:Inv X pins σ H s) (g:DGet H a y o) (ry:RelV y u) (rd:RelV d r) (h:∀w' s',Inv X pins σ H s'→RelV (o.getD d) w'→Q w' s') :
  wpAny (model X.prog X.w) A (call (.builtin "dict.get") [.ref a,u,r]) Q E s:=by
 rcases g with⟨kvs,k,e,ey,l⟩|⟨kvs,k,b,e,ey,eb,l⟩
 ·subst ey
  obtain⟨z,hd,vs,rel,dd⟩:=ϱU I.hok e
  refine call_meetsIn PySem.F.slot_dict_get dd.typeIs PySem.F.entry_dict_get (PySem.F.args_dict_get_3 _ _ _) (meets_dict_get_default (ϖV X.prog X.w) a (ϱq ry) hd r) ⟨_,dd.mapOf,h _ _ (I.tok _) ?_⟩
  rw[l]
  exact(rel.val k).getD rd
 ·subst ey
  cases (show u=Value.ref b from ry)
  obtain⟨z,hd,xs,rel,dd⟩:=ϱY I.hok e
  refine call_meetsIn PySem.F.slot_dict_get dd.typeIs PySem.F.entry_dict_get (PySem.F.args_dict_get_3 _ _ _) (meetsH_dict_get_default (tupleKind (ϖV X.prog X.w)) a b hd r) ⟨tupleKind_room_in1 hu,k,xs,ϰd I.hok eb,dd,h _ _ (I.tok _) ?_⟩
  rw[l]
  exact(rel.val k).getD rd
end
section
variable {X:Cx}{o e f:Expr}{apos cpos:Pos}{td ty tx:TE}
end
section
variable {X:Cx}{pins:List (Addr×Obj)}{σ:St}{H:Hp}{s:Shared}{a:Addr}{kvs:List (Key×V)}{A:Around}{E:Value→Shared→Prop}
end
section
variable {X:Cx}{pins:List (Addr×Obj)}{σ:St}{H:Hp}{s:Shared}{a:Addr}{y:V}{u:Value}{A:Around}{E:Value→Shared→Prop}
end
section
variable {X:Cx}
end
section
variable {κ:Type} [DecidableEq κ]
end
end L2
namespace L3
open PySem PySem.Spec PyProof.Rows L2
theorem ϵb:bootBuiltins "len"=some (.builtin "len"):=by decide +kernel
theorem bt_min:bootBuiltins "min"=some (.builtin "min"):=by decide +kernel
theorem ϲa:bootBuiltins "max"=some (.builtin "max"):=by decide +kernel
theorem ϖO:bootBuiltins "isinstance"=some (.builtin "isinstance"):=by decide +kernel
theorem ϰJ:bootBuiltins "list"=some (.type "list"):=by decide +kernel
abbrev cl (z:Str):List Nat:=z.cps.toList
theorem ϱ8 (a b:Str):cl (a++b)=cl a++cl b:=by
 show(a.cps++b.cps).toList=_
 rw[Array.toList_append]
theorem ϑY (a:Str):(cl a).length=a.length:=by
 show a.cps.toList.length=a.cps.size
 rw[Array.length_toList]
theorem ϵ3 (z:Str) (lo hi:Option Int):cl (Txt.slice z lo hi)=((cl z).drop (HT.sIx z.length 0 lo)).take (HT.sIx z.length z.length hi-HT.sIx z.length 0 lo):=by
 have e:Builtin.Str.strSliceIndices lo hi 1 z.length=sliceRange (sliceBounds lo hi none z.length).1 (sliceBounds lo hi none z.length).2.1 1:=by
  cases lo<;>cases hi<;>rfl
 obtain⟨h1,h2,_⟩:=ϰR lo hi z.length
 have p:(Builtin.Str.strSliceIndices lo hi 1 z.length).filterMap (z.cps[·]?)=((cl z).drop (HT.sIx z.length 0 lo)).take (HT.sIx z.length z.length hi-HT.sIx z.length 0 lo):=by
  rw[e,h1,h2,sliceRange_one,pick_run]
 unfold Txt.slice
 split
 ·rename_i hc
  have hl:(Builtin.Str.strSliceIndices lo hi 1 z.length).length=z.length:=by
   simpa using hc
  rw[e,h1,h2,sliceRange_one,List.length_map,List.length_range] at hl
  have b1:=HT.sIx_le z.length 0 (Nat.zero_le _) lo
  have b2:=HT.sIx_le z.length z.length (Nat.le_refl _) hi
  by_cases h0:z.length=0
  ·have:cl z=[]:=List.eq_nil_of_length_eq_zero (by rw[ϑY];exact h0)
   rw[this];simp
  ·have a0:HT.sIx z.length 0 lo=0:=by omega
   have aN:HT.sIx z.length z.length hi=z.length:=by omega
   rw[a0,aN,List.drop_zero,Nat.sub_zero,← ϑY,List.take_length]
 ·exact p
section
variable {X:Cx}
def rSlS:V→Option Int→Option Int→Hp→VK→Prop:=fun x lo hi H Q=>∃z,x=.str z∧z.length≤sizeLine∧Q (.str (Txt.slice z lo hi)) H
theorem ϵG {v:Value}{o:Option Int} (p:IsPart v o):∃l:Option (Int×Tok),v=partValue l∧l.map (·.1)=o:=by
 cases p with
 |none=>exact⟨none,rfl,rfl⟩
 |int i t=>exact⟨some (i,t),rfl,rfl⟩
theorem sl_str:SlR X rSlS:=by
 intro pins s σ H x v vl vu lo hi sl Q I rx hs pl pu h
 obtain⟨z,rfl,hz,q⟩:=h
 obtain⟨t,rfl⟩:=rx
 obtain⟨l,rfl,rfl⟩:=ϵG pl
 obtain⟨u,rfl,rfl⟩:=ϵG pu
 refine⟨"str",_,PySem.F.slot_str_getitem.lookup,typeIs_str _ _ _,?_⟩
 refine wpAny_getItem_str_slice (l:=l) (u:=u) (st:=none) hs rfl ?_
 refine post_val_or_str ⟨Nat.le_trans (Txt.slice_le z _ _) hz,fun t' k=>?_⟩
 exact⟨.str (Txt.slice z (l.map (·.1)) (u.map (·.1))),H,I.tok _,⟨_,rfl⟩,q⟩
theorem pe_ty {x:Str}{T:String}{pos:Pos} (hg:Gl X x) (hm:X.mg x=none) (hv:bootBuiltins x=some (.type T)) (hn:x≠"__name__":=by decide) (hdb:(x == ("__debug__":Str))=false:=by decide) :
  PE X (.Name x pos) (tC (.ty T)):=ϲE (v:=.ty T) hg hm hv rfl hn hdb
def Cal (P:Program) (w:World) (K:PySem.W.Frag) (mg:Str→Option Value) (base:Heap) (x:Str) (ps:List Str) (k:Nat) (sp:Sp):Prop:=
 ∃f fd,FnOk P w K mg base CX0 k f fd ps sp∧Binds K fd ps []∧PySem.W.keepIn K (.ref f)=true∧mg x=some (.ref f)
def tFn (sp:Sp) (t:TA):TE:=fun σ H Q=>t σ H fun vs H1=>sp vs H1 Q E0
theorem ϖ9 {x:Str}{ps:List Str}{k k':Nat}{sp:Sp}{p pos:Pos}{e:Expr}{es:List Expr}{t:TA} (C:Cal X.prog X.w X.K X.mg X.base x ps k sp) (hr:Room k' X.A) (hk:k≤k') (hg:Gl X x)
  (ha:PA X (e::es) t) (hdb:(x == ("__debug__":Str))=false:=by decide) (he:starEach (e::es) X.env=(false,eval e X.env)::starEach es X.env:=by rfl) (hpl:(backTo pos (starEach es X.env)).any (·.1)=false:=by rfl) :
  PE X (.Call (.Name x p) (e::es) [] pos) (tFn sp t):=by
 obtain⟨f,fd,F,b,kp,hm⟩:=C
 intro pins s σ H Q I h
 refine wpAny_Call_Name_kw (ϕT I hg hm ?_ hdb)
 refine PySem.W.callWith_K (h₀:=X.base) I.ok.mod.kin kp (thn (ha pos pins s σ H _ I h) fun us s1 ⟨vs,H1,I1,r,q⟩=>⟨I1.kIn,?_⟩) he hpl
 exact ϲb (dvs:=[]) F (hr.mono hk) b .nil pass0 I1 r (by rw[List.append_nil];exact q)
end
section
variable {X:Cx}
def tMid (t u:TS):TS:=fun D σ H=>∃M:L2.St→Hp→Prop,t { D with nx:=M } σ H∧∀σ' H',M σ' H'→u D σ' H'
theorem ϱk {st:Stmt}{rest:List Stmt}{t u:TS} (h1:PS X st t) (h2:PSs X rest u):PSs X (st::rest) (tMid t u):=by
 intro pins s σ H D I h
 obtain⟨M,ht,hu⟩:=h
 refine wpAny_execs_cons (thn (h1 pins s σ H { D with nx:=M } I ht) fun f s1 q=>?_)
 cases f with
 |next=>
  obtain⟨σ',H',I',q⟩:=q
  exact h2 pins s1 σ' H' D I' (hu σ' H' q)
 |ret v=>exact q
 |brk=>exact q
 |cont=>exact q
def tAbs (t:TE):TE:=fun σ H Q=>∃P:V→Hp→Prop,t σ H P∧∀v H',P v H'→Q v H'
theorem ϵj {e:Expr}{t:TE} (h:PE X e t):PE X e (tAbs t):=by
 intro pins s σ H Q I hw
 obtain⟨P,ht,hq⟩:=hw
 exact thn (h pins s σ H P I ht) fun u s1 ⟨v,H1,I1,r1,q1⟩=>⟨v,H1,I1,r1,hq v H1 q1⟩
def ϲp (K:PySem.W.Frag):R2:=fun x y H Q=>∃p xs i,x=.ref p∧y=.int i∧SqL K H p xs∧0≤i∧i < xs.length∧∃W:V→Prop,(∀ v∈xs,W v)∧∀v,W v→Q v H
theorem ϵr:IxR X (ϲp X.K):=by
 intro value slice pins s σ H x y v u Q I rx ry h hs
 obtain⟨p,xs,i,rfl,rfl,hq,h0,h1,W,hW,q⟩:=h
 obtain⟨n,rfl⟩:=Int.eq_ofNat_of_zero_le h0
 have hn:n < xs.length:=by omega
 exact ϖW value slice pins s σ H _ _ v u Q I rx ry ⟨p,xs,_,xs[n],rfl,rfl,hq,ϖM (by rw[List.getElem?_eq_getElem hn]),q _ (hW _ (List.getElem_mem hn))⟩ hs
end
theorem pz {j:Int} (h:decide (0 < j)=true:=by decide):0 < j:=of_decide_eq_true h
theorem iteD {c A B:Prop} [Decidable c] (hc:¬ c) (h:B):if decide c=true then A else B:=by
 rw[decide_eq_false hc]
 exact iteF h
theorem ϲW {c A B:Prop} [Decidable c] (hc:c) (h:A):if decide c=true then A else B:=by
 rw[decide_eq_true hc]
 exact iteT h
theorem ϕL {c A B:Prop} [Decidable c] (h1:c→A) (h2:¬ c→B):if decide c=true then A else B:=by
 by_cases h:c
 ·exact ϲW h (h1 h)
 ·exact iteD h (h2 h)
theorem ϲG {c A B:Prop} [Decidable c] (h1:¬ c→A) (h2:c→B):if (!decide c)=true then A else B:=by
 by_cases h:c
 ·rw[decide_eq_true h];exact iteF (h2 h)
 ·rw[decide_eq_false h];exact iteT (h1 h)
theorem ϖi {H:Hp}{p:Addr} (h:H p=none) (o:HO):Same H (upd H p o):=fun b u q=>by rw[ϖs (ϖw q h)];exact q
theorem at_mem {α:Type}{xs:List α}{i:Int} (h0:0≤i) (h1:i < xs.length):∃v,atI xs i=some v∧v∈xs:=by
 obtain⟨n,rfl⟩:=Int.eq_ofNat_of_zero_le h0
 have hn:n < xs.length:=by omega
 exact⟨xs[n],ϖM (by rw[List.getElem?_eq_getElem hn]),List.getElem_mem hn⟩
theorem ϲM {α:Type}{xs:List α}{i:Int} (h0:0≤i) (h1:i < xs.length):∃v,atI xs i=some v∧xs[i.toNat]?=some v:=by
 obtain⟨n,rfl⟩:=Int.eq_ofNat_of_zero_le h0
 have hn:n < xs.length:=by omega
 exact⟨xs[n],ϖM (by rw[List.getElem?_eq_getElem hn]),by simp[hn]⟩
theorem szl {n:Nat} (h:n≤100000):n≤sizeLine:=Nat.le_trans h (by rw[sizeLine_eq];decide)
end L3
namespace L3
open PySem PySem.Spec PyProof.Rows L2 PySem.SeqAt
inductive D where
 |non|bl (b:Bool)|int (i:Int)|str (x:Str)|tup (xs:List D)|lst (xs:List D)
mutual
def Rep (K:PySem.W.Frag) (H:Hp):D→V→Prop
 |.non,v=>v=.non
 |.bl b,v=>v=.bl b
 |.int i,v=>v=.int i
 |.str x,v=>v=.str x
 |.tup ds,v=>∃a xs,v=.ref a∧SqT K H a xs∧Reps K H ds xs
 |.lst ds,v=>∃a xs,v=.ref a∧SqL K H a xs∧Reps K H ds xs
def Reps (K:PySem.W.Frag) (H:Hp):List D→List V→Prop
 |[],vs=>vs=[]
 |d::ds,vs=>∃v r,vs=v::r∧Rep K H d v∧Reps K H ds r
end
theorem Same.seqT {K:PySem.W.Frag}{H H':Hp}{a:Addr}{xs:List V} (e:Same H H') (h:SqT K H a xs):SqT K H' a xs:=by
 rcases h with (h|⟨o,h⟩)|h
 ·exact .inl (.inl (e _ _ h))
 ·exact .inl (.inr ⟨o,e _ _ h⟩)
 ·exact .inr h
mutual
theorem Rep.mono {K:PySem.W.Frag}{H H':Hp} (g:Same H H'):∀(d:D) (v:V),Rep K H d v→Rep K H' d v
 |.non,_,h=>by unfold Rep at h⊢;exact h
 |.bl _,_,h=>by unfold Rep at h⊢;exact h
 |.int _,_,h=>by unfold Rep at h⊢;exact h
 |.str _,_,h=>by unfold Rep at h⊢;exact h
 |.tup ds,_,h=>by
  unfold Rep at h⊢
  obtain⟨a,xs,e,q,r⟩:=h
  exact⟨a,xs,e,Same.seqT g q,Reps.mono g ds xs r⟩
 |.lst ds,_,h=>by
  unfold Rep at h⊢
  obtain⟨a,xs,e,q,r⟩:=h
  exact⟨a,xs,e,g.seq q,Reps.mono g ds xs r⟩
theorem Reps.mono {K:PySem.W.Frag}{H H':Hp} (g:Same H H'):∀(ds:List D) (vs:List V),Reps K H ds vs→Reps K H' ds vs
 |[],_,h=>by unfold Reps at h⊢;exact h
 |d::ds,_,h=>by
  unfold Reps at h⊢
  obtain⟨v,r,e,q,t⟩:=h
  exact⟨v,r,e,Rep.mono g d v q,Reps.mono g ds r t⟩
end
theorem Reps.nil {K:PySem.W.Frag}{H:Hp}:Reps K H [] []:=by unfold Reps;rfl
theorem Reps.cons {K:PySem.W.Frag}{H:Hp}{d:D}{v:V}{ds:List D}{vs:List V} (h:Rep K H d v) (t:Reps K H ds vs):Reps K H (d::ds) (v::vs):=by
 unfold Reps;exact⟨v,vs,rfl,h,t⟩
theorem Reps.inv {K:PySem.W.Frag}{H:Hp}{d:D}{ds:List D}{vs:List V} (h:Reps K H (d::ds) vs):∃v r,vs=v::r∧Rep K H d v∧Reps K H ds r:=by
 unfold Reps at h;exact h
theorem Reps.inv0 {K:PySem.W.Frag}{H:Hp}{vs:List V} (h:Reps K H [] vs):vs=[]:=by
 unfold Reps at h;exact h
theorem Reps.length {K:PySem.W.Frag}{H:Hp}:∀{ds:List D}{vs:List V},Reps K H ds vs→ds.length=vs.length
 |[],_,h=>by rw[h.inv0];rfl
 |d::ds,_,h=>by
  obtain⟨v,r,rfl,_,t⟩:=h.inv
  rw[List.length_cons,List.length_cons,Reps.length t]
mutual
def eqD:D→D→Bool
 |.non,.non=>true
 |.bl a,.bl b=>a == b
 |.bl a,.int b=>(if a then 1 else 0) == b
 |.int a,.bl b=>a == (if b then 1 else 0)
 |.int a,.int b=>a == b
 |.str a,.str b=>a == b
 |.tup xs,.tup ys=>eqDs xs ys
 |.lst xs,.lst ys=>eqDs xs ys
 |_,_=>false
def eqDs:List D→List D→Bool
 |[],[]=>true
 |x::xs,y::ys=>eqD x y && eqDs xs ys
 |_,_=>false
end
mutual
def deep:D→Nat
 |.tup xs=>ϕe xs+1
 |.lst xs=>ϕe xs+1
 |_=>0
def ϕe:List D→Nat
 |[]=>0
 |x::xs=>max (deep x) (ϕe xs)
end
mutual
theorem ϕz:∀d:D,eqD d d=true
 |.non=>by simp[eqD]
 |.bl b=>by simp[eqD]
 |.int i=>by simp[eqD]
 |.str x=>by simp[eqD]
 |.tup xs=>by rw[eqD];exact ϰb xs
 |.lst xs=>by rw[eqD];exact ϰb xs
theorem ϰb:∀xs:List D,eqDs xs xs=true
 |[]=>by simp[eqDs]
 |x::xs=>by rw[eqDs,ϕz x,ϰb xs];rfl
end
mutual
def noB:D→Bool
 |.bl _=>false
 |.tup xs=>noBs xs
 |.lst xs=>noBs xs
 |_=>true
def noBs:List D→Bool
 |[]=>true
 |x::xs=>noB x && noBs xs
end
mutual
theorem eqD_eq:∀d e:D,noB d=true→noB e=true→eqD d e=true→d=e
 |.non,e,_,h2,h=>by cases e<;>simp_all [eqD]
 |.bl b,e,h1,_,_=>by simp[noB] at h1
 |.int i,e,_,h2,h=>by cases e<;>simp_all [eqD,noB]
 |.str x,e,_,h2,h=>by cases e<;>simp_all [eqD]
 |.tup xs,e,h1,h2,h=>by
  cases e<;>simp only[eqD,noB,Bool.false_eq_true] at h1 h2 h
  rw[ϱs _ _ h1 h2 h]
 |.lst xs,e,h1,h2,h=>by
  cases e<;>simp only[eqD,noB,Bool.false_eq_true] at h1 h2 h
  rw[ϱs _ _ h1 h2 h]
theorem ϱs:∀xs ys:List D,noBs xs=true→noBs ys=true→eqDs xs ys=true→xs=ys
 |[],ys,_,_,h=>by cases ys<;>simp_all [eqDs]
 |x::xs,ys,h1,h2,h=>by
  cases ys with
  |nil=>simp[eqDs] at h
  |cons y ys=>
   simp only[eqDs,noBs,Bool.and_eq_true] at h1 h2 h
   rw[eqD_eq x y h1.1 h2.1 h.1,ϱs xs ys h1.2 h2.2 h.2]
end
def ϑM (xs ys:List D) (j:Nat):Bool:=match xs[j]?,ys[j]? with
 |some x,some y=>eqD x y
 |_,_=>false
theorem ϕ4:∀xs ys:List D,eqDs xs ys=((List.range (min xs.length ys.length)).all (ϑM xs ys) && (xs.length == ys.length))
 |[],[]=>by simp[eqDs]
 |[],y::ys=>by simp[eqDs]
 |x::xs,[]=>by simp[eqDs]
 |x::xs,y::ys=>by
  have ih:=ϕ4 xs ys
  have e:min (x::xs).length (y::ys).length=min xs.length ys.length+1:=by simp only[List.length_cons];omega
  have p:ϑM (x::xs) (y::ys)∘Nat.succ=ϑM xs ys:=by
   funext j;simp[ϑM]
  rw[eqDs,e,List.range_succ_eq_map,List.all_cons,List.all_map,p,ih]
  have q:ϑM (x::xs) (y::ys) 0=eqD x y:=by simp[ϑM]
  have l:((x::xs).length == (y::ys).length)=(xs.length == ys.length):=by
   simp only[List.length_cons]
   by_cases h:xs.length=ys.length<;>simp[h]
  rw[q,l,Bool.and_assoc]
section
variable {X:Cx}{pins:List (Addr×Obj)}{σ:L2.St}{H:Hp}{s:Shared}
mutual
theorem Rep.inj (I:Inv X pins σ H s):∀(d e:D) (v:V),Rep X.K H d v→Rep X.K H e v→d=e
 |.non,e,v,h,k=>by unfold Rep at h;subst h;cases e<;>simp[Rep] at k<;>rfl
 |.bl b,e,v,h,k=>by unfold Rep at h;subst h;cases e<;>simp[Rep] at k;rw[k]
 |.int i,e,v,h,k=>by unfold Rep at h;subst h;cases e<;>simp[Rep] at k;rw[k]
 |.str x,e,v,h,k=>by unfold Rep at h;subst h;cases e<;>simp[Rep] at k;rw[k]
 |.tup ds,e,v,h,k=>by
  unfold Rep at h
  obtain⟨a,xs,rfl,q,r⟩:=h
  cases e with
  |tup es=>
   unfold Rep at k
   obtain⟨b,ys,e1,q2,r2⟩:=k
   cases e1
   have:=I.tuple_inj q q2
   subst this
   rw[Reps.inj I ds es xs r r2]
  |lst es=>
   unfold Rep at k
   obtain⟨b,ys,e1,q2,r2⟩:=k
   cases e1
   obtain⟨i1,_,t1,_⟩:=I.tuple q
   obtain⟨i2,_,t2,_⟩:=I.list q2
   exact absurd rfl (ne_of_list_tuple t2.isList (let ⟨o,h1,h2,n,h3⟩:=t1;⟨o,h1,h2,n,h3⟩))
  |_=>simp[Rep] at k
 |.lst ds,e,v,h,k=>by
  unfold Rep at h
  obtain⟨a,xs,rfl,q,r⟩:=h
  cases e with
  |lst es=>
   unfold Rep at k
   obtain⟨b,ys,e1,q2,r2⟩:=k
   cases e1
   have:=I.list_inj q q2
   subst this
   rw[Reps.inj I ds es xs r r2]
  |tup es=>
   unfold Rep at k
   obtain⟨b,ys,e1,q2,r2⟩:=k
   cases e1
   obtain⟨i1,_,t1,_⟩:=I.tuple q2
   obtain⟨i2,_,t2,_⟩:=I.list q
   exact absurd rfl (ne_of_list_tuple t2.isList (let ⟨o,h1,h2,n,h3⟩:=t1;⟨o,h1,h2,n,h3⟩))
  |_=>simp[Rep] at k
theorem Reps.inj (I:Inv X pins σ H s):∀(ds es:List D) (vs:List V),Reps X.K H ds vs→Reps X.K H es vs→ds=es
 |[],es,vs,h,k=>by
  rw[h.inv0] at k
  cases es with
  |nil=>rfl
  |cons e es=>obtain⟨_,_,z,_⟩:=k.inv;cases z
 |d::ds,es,vs,h,k=>by
  obtain⟨v,r,rfl,q,t⟩:=h.inv
  cases es with
  |nil=>have z:=k.inv0;cases z
  |cons e es=>
   obtain⟨_,_,z,q2,t2⟩:=k.inv
   cases z
   rw[Rep.inj I d e v q q2,Reps.inj I ds es r t t2]
end
end
end L3
namespace L3
open PySem PySem.Spec PyProof.Rows L2 PySem.SeqAt
section
variable {X:Cx}{pins:List (Addr×Obj)}{σ:L2.St}{H:Hp}{s:Shared}{A:Around}
theorem ϕi (A:Around):A.in1.units=A.units+1:=rfl
abbrev Elts (A:Around) (s:Shared) (xs ys:List V) (ds es:List D):Prop:=
 ∀us ws,Vals xs us→Vals ys ws→∀(j:Nat) v u,us[j]?=some v→ws[j]?=some u→EqAt A s v u (ϑM ds es j)
theorem ϲh {a b:Addr}{xs ys:List V}{ds es:List D} (I:Inv X pins σ H s) (q:SqT X.K H a xs) (r:Reps X.K H ds xs) (q2:SqT X.K H b ys) (r2:Reps X.K H es ys) (hu:A.units < cLine) (he:Elts A.in1 s xs ys ds es) :
  RcAt A s (.ref a) (.ref b) (eqDs ds es)∧RcNeAt A s (.ref a) (.ref b) (!eqDs ds es):=by
 obtain⟨us,rv,t1,_⟩:=I.tuple q
 obtain⟨ws,rw',t2,_⟩:=I.tuple q2
 have l1:us.toArray.size=ds.length:=by rw[List.size_toArray,← rv.length,r.length]
 have l2:ws.toArray.size=es.length:=by rw[List.size_toArray,← rw'.length,r2.length]
 have el:∀j (h1:j < us.toArray.size) (h2:j < ws.toArray.size),EqAt A.in1 s us.toArray[j] ws.toArray[j] (ϑM ds es j):=fun j h1 h2=>
  he us ws rv rw' j _ _ (by simp at h1⊢) (by simp at h2⊢)
 have e:=RcAt.tuples (A:=A) (s:=s) (l:=a) (b:=b) t1 t2 hu el
 have n:=RcNeAt.tuples (A:=A) (s:=s) (l:=a) (b:=b) t1 t2 hu el
 rw[l1,l2,← ϕ4] at e n
 exact⟨e,n⟩
theorem ϲf {a b:Addr}{xs ys:List V}{ds es:List D} (I:Inv X pins σ H s) (q:SqL X.K H a xs) (r:Reps X.K H ds xs) (q2:SqL X.K H b ys) (r2:Reps X.K H es ys) (hu:A.units < cLine) (he:Elts A.in1 s xs ys ds es) :
  RcAt A s (.ref a) (.ref b) (eqDs ds es)∧RcNeAt A s (.ref a) (.ref b) (!eqDs ds es):=by
 obtain⟨us,rv,t1,_⟩:=I.list q
 obtain⟨ws,rw',t2,_⟩:=I.list q2
 have l1:us.toArray.size=ds.length:=by rw[List.size_toArray,← rv.length,r.length]
 have l2:ws.toArray.size=es.length:=by rw[List.size_toArray,← rw'.length,r2.length]
 have el:∀j (h1:j < us.toArray.size) (h2:j < ws.toArray.size),EqAt A.in1 s us.toArray[j] ws.toArray[j] (ϑM ds es j):=fun j h1 h2=>
  he us ws rv rw' j _ _ (by simp at h1⊢) (by simp at h2⊢)
 by_cases hl:ds.length=es.length
 ·have e:=RcAt.lists (A:=A) (s:=s) (l:=a) (b:=b) t1.isList t2.isList (by omega) hu el
  have n:=RcNeAt.lists (A:=A) (s:=s) (l:=a) (b:=b) t1.isList t2.isList (by omega) hu el
  have z:eqDs ds es=(List.range ds.length).all (ϑM ds es):=by
   rw[ϕ4,hl];simp
  rw[l1,← z] at e n
  exact⟨e,n⟩
 ·have hs:(us.toArray.size != ws.toArray.size)=true:=by rw[l1,l2];simpa using hl
  have e:=RcAt.lists_lengths (A:=A) (s:=s) (l:=a) (b:=b) t1.isList t2.isList hs hu
  have n:=RcNeAt.lists_lengths (A:=A) (s:=s) (l:=a) (b:=b) t1.isList t2.isList hs hu
  have z:eqDs ds es=false:=by
   rw[ϕ4];simp[hl]
  rw[z]
  exact⟨e,n⟩
mutual
theorem eqAtD (I:Inv X pins σ H s):∀(d e:D) (A:Around) (v u:V) (v' u':Value),Rep X.K H d v→Rep X.K H e u→RelV v v'→RelV u u'→A.units+deep d < cLine→EqAt A s v' u' (eqD d e)
 |.non,e,A,v,u,v',u',hd,he,rv,ru,hu=>by
  unfold Rep at hd;subst hd;cases rv
  cases e<;>unfold Rep at he
  ·subst he;cases ru;exact EqAt.same _
  ·subst he;cases ru;exact EqAt.none_bool _
  ·subst he;obtain⟨t,rfl⟩:=ru;exact EqAt.none_int _ _
  ·subst he;obtain⟨t,rfl⟩:=ru;exact EqAt.none_str _ _
  ·obtain⟨a,xs,rfl,q,_⟩:=he;cases ru;obtain⟨_,_,t,_⟩:=I.tuple q;exact EqAt.none_tuple t (by omega)
  ·obtain⟨a,xs,rfl,q,_⟩:=he;cases ru;obtain⟨_,_,t,_⟩:=I.list q;exact EqAt.none_list t.isList (by omega)
 |.bl b,e,A,v,u,v',u',hd,he,rv,ru,hu=>by
  unfold Rep at hd;subst hd;cases rv
  cases e<;>unfold Rep at he
  ·subst he;cases ru;exact EqAt.bool_none _
  ·subst he;cases ru;exact EqAt.bool_bool _ _
  ·subst he;obtain⟨t,rfl⟩:=ru;exact EqAt.bool_int _ _ _
  ·subst he;obtain⟨t,rfl⟩:=ru;exact EqAt.bool_str _ _ _
  ·obtain⟨a,xs,rfl,q,_⟩:=he;cases ru;obtain⟨_,_,t,_⟩:=I.tuple q;exact EqAt.bool_tuple _ t (by omega)
  ·obtain⟨a,xs,rfl,q,_⟩:=he;cases ru;obtain⟨_,_,t,_⟩:=I.list q;exact EqAt.bool_list _ t.isList (by omega)
 |.int i,e,A,v,u,v',u',hd,he,rv,ru,hu=>by
  unfold Rep at hd;subst hd;obtain⟨t0,rfl⟩:=rv
  cases e<;>unfold Rep at he
  ·subst he;cases ru;exact EqAt.int_none _ _
  ·subst he;cases ru;exact EqAt.int_bool _ _ _
  ·subst he;obtain⟨t,rfl⟩:=ru;exact EqAt.int_int _ _ _ _
  ·subst he;obtain⟨t,rfl⟩:=ru;exact EqAt.int_str _ _ _ _
  ·obtain⟨a,xs,rfl,q,_⟩:=he;cases ru;obtain⟨_,_,t,_⟩:=I.tuple q;exact EqAt.int_tuple _ _ t (by omega)
  ·obtain⟨a,xs,rfl,q,_⟩:=he;cases ru;obtain⟨_,_,t,_⟩:=I.list q;exact EqAt.int_list _ _ t.isList (by omega)
 |.str x,e,A,v,u,v',u',hd,he,rv,ru,hu=>by
  unfold Rep at hd;subst hd;obtain⟨t0,rfl⟩:=rv
  cases e<;>unfold Rep at he
  ·subst he;cases ru;exact EqAt.str_none _ _
  ·subst he;cases ru;exact EqAt.str_bool _ _ _
  ·subst he;obtain⟨t,rfl⟩:=ru;exact EqAt.str_int _ _ _ _
  ·subst he;obtain⟨t,rfl⟩:=ru;exact EqAt.str_str _ _ _ _
  ·obtain⟨a,xs,rfl,q,_⟩:=he;cases ru;obtain⟨_,_,t,_⟩:=I.tuple q;exact EqAt.str_tuple _ _ t (by omega)
  ·obtain⟨a,xs,rfl,q,_⟩:=he;cases ru;obtain⟨_,_,t,_⟩:=I.list q;exact EqAt.str_list _ _ t.isList (by omega)
 |.tup ds,e,A,v,u,v',u',hd,he,rv,ru,hu=>by
  have hd0:=hd
  have he0:=he
  unfold Rep at hd
  obtain⟨a,xs,rfl,q,r⟩:=hd
  cases rv
  rw[deep] at hu
  obtain⟨_,_,t0,_⟩:=I.tuple q
  cases e<;>unfold Rep at he
  ·subst he;cases ru;exact EqAt.tuple_none t0 (by omega)
  ·subst he;cases ru;exact EqAt.tuple_bool _ t0 (by omega)
  ·subst he;obtain⟨t,rfl⟩:=ru;exact EqAt.tuple_int _ _ t0 (by omega)
  ·subst he;obtain⟨t,rfl⟩:=ru;exact EqAt.tuple_str _ _ t0 (by omega)
  ·rename_i es
   obtain⟨b,ys,rfl,q2,r2⟩:=he
   cases ru
   by_cases hab:a=b
   ·subst hab
    rw[Rep.inj I _ _ _ hd0 he0,ϕz]
    exact EqAt.same _
   ·rw[eqD]
    exact EqAt.of_refs hab (ϲh I q r q2 r2 (by omega) fun us ws w1 w2 j v u e1 e2=>ϰ7 I ds es A.in1 xs ys us ws r r2 w1 w2 (by rw[ϕi];omega) j v u e1 e2).1
  ·obtain⟨b,ys,rfl,q2,r2⟩:=he
   cases ru
   obtain⟨_,_,t,_⟩:=I.list q2
   exact EqAt.tuple_list t0 t.isList (by omega)
 |.lst ds,e,A,v,u,v',u',hd,he,rv,ru,hu=>by
  have hd0:=hd
  have he0:=he
  unfold Rep at hd
  obtain⟨a,xs,rfl,q,r⟩:=hd
  cases rv
  rw[deep] at hu
  obtain⟨_,_,t0,_⟩:=I.list q
  cases e<;>unfold Rep at he
  ·subst he;cases ru;exact EqAt.list_none t0.isList (by omega)
  ·subst he;cases ru;exact EqAt.list_bool _ t0.isList (by omega)
  ·subst he;obtain⟨t,rfl⟩:=ru;exact EqAt.list_int _ _ t0.isList (by omega)
  ·subst he;obtain⟨t,rfl⟩:=ru;exact EqAt.list_str _ _ t0.isList (by omega)
  ·obtain⟨b,ys,rfl,q2,r2⟩:=he
   cases ru
   obtain⟨_,_,t,_⟩:=I.tuple q2
   exact EqAt.list_tuple t0.isList t (by omega)
  ·rename_i es
   obtain⟨b,ys,rfl,q2,r2⟩:=he
   cases ru
   by_cases hab:a=b
   ·subst hab
    rw[Rep.inj I _ _ _ hd0 he0,ϕz]
    exact EqAt.same _
   ·rw[eqD]
    exact EqAt.of_refs hab (ϲf I q r q2 r2 (by omega) fun us ws w1 w2 j v u e1 e2=>ϰ7 I ds es A.in1 xs ys us ws r r2 w1 w2 (by rw[ϕi];omega) j v u e1 e2).1
theorem ϰ7 (I:Inv X pins σ H s):∀(ds es:List D) (A:Around) (xs ys:List V) (us ws:List Value),Reps X.K H ds xs→Reps X.K H es ys→Vals xs us→Vals ys ws→A.units+ϕe ds < cLine →
  ∀(j:Nat) v u,us[j]?=some v→ws[j]?=some u→EqAt A s v u (ϑM ds es j)
 |[],es,A,xs,ys,us,ws,hd,he,rv,ru,hu,j,v,u,e1,e2=>by
  rw[hd.inv0] at rv;cases rv;simp at e1
 |d::ds,[],A,xs,ys,us,ws,hd,he,rv,ru,hu,j,v,u,e1,e2=>by
  rw[he.inv0] at ru;cases ru;simp at e2
 |d::ds,e::es,A,xs,ys,us,ws,hd,he,rv,ru,hu,j,v,u,e1,e2=>by
  obtain⟨x,xs,rfl,hx,hxs⟩:=hd.inv
  obtain⟨y,ys,rfl,hy,hys⟩:=he.inv
  rw[ϕe] at hu
  cases rv with
  |cons rv1 rv2=>
   cases ru with
   |cons ru1 ru2=>
    cases j with
    |zero=>
     simp at e1 e2
     subst e1 e2
     have p:ϑM (d::ds) (e::es) 0=eqD d e:=by simp[ϑM]
     rw[p]
     exact eqAtD I d e A x y _ _ hx hy rv1 ru1 (by omega)
    |succ j=>
     have p:ϑM (d::ds) (e::es) (j+1)=ϑM ds es j:=by simp[ϑM]
     rw[p]
     exact ϰ7 I ds es A xs ys _ _ hxs hys rv2 ru2 (by omega) j v u (by simpa using e1) (by simpa using e2)
end
theorem rcD (I:Inv X pins σ H s) (d e:D) {v u:V}{v' u':Value} (hd:Rep X.K H d v) (he:Rep X.K H e u) (rv:RelV v v') (ru:RelV u u') (hu:A.units+deep d < cLine):RcAt A s v' u' (eqD d e)∧RcNeAt A s v' u' (!eqD d e):=by
 cases d with
 |non=>
  unfold Rep at hd
  subst hd;cases rv
  cases e with
  |non=>
   unfold Rep at he
   subst he;cases ru
   exact⟨RcAt.none_none ,RcNeAt.none_none ⟩
  |bl b1=>
   unfold Rep at he
   subst he;cases ru
   exact⟨RcAt.none_bool _ ,RcNeAt.none_bool _ ⟩
  |int i1=>
   unfold Rep at he
   subst he;obtain⟨t1,rfl⟩:=ru
   exact⟨RcAt.none_int _ _ ,RcNeAt.none_int _ _ ⟩
  |str x1=>
   unfold Rep at he
   subst he;obtain⟨t1,rfl⟩:=ru
   exact⟨RcAt.none_str _ _ ,RcNeAt.none_str _ _ ⟩
  |tup es=>
   unfold Rep at he
   obtain⟨b,ys,rfl,q2,r2⟩:=he
   cases ru
   obtain⟨_,_,t1,_⟩:=I.tuple q2
   exact⟨RcAt.none_tuple t1 (by omega),RcNeAt.none_tuple t1 (by omega)⟩
  |lst es=>
   unfold Rep at he
   obtain⟨b,ys,rfl,q2,r2⟩:=he
   cases ru
   obtain⟨_,_,t1,_⟩:=I.list q2
   exact⟨RcAt.none_list t1.isList (by omega),RcNeAt.none_list t1.isList (by omega)⟩
 |bl b0=>
  unfold Rep at hd
  subst hd;cases rv
  cases e with
  |non=>
   unfold Rep at he
   subst he;cases ru
   exact⟨RcAt.bool_none _ ,RcNeAt.bool_none _ ⟩
  |bl b1=>
   unfold Rep at he
   subst he;cases ru
   exact⟨RcAt.bool_bool _ _ ,RcNeAt.bool_bool _ _ ⟩
  |int i1=>
   unfold Rep at he
   subst he;obtain⟨t1,rfl⟩:=ru
   exact⟨RcAt.bool_int _ _ _ ,RcNeAt.bool_int _ _ _ ⟩
  |str x1=>
   unfold Rep at he
   subst he;obtain⟨t1,rfl⟩:=ru
   exact⟨RcAt.bool_str _ _ _ ,RcNeAt.bool_str _ _ _ ⟩
  |tup es=>
   unfold Rep at he
   obtain⟨b,ys,rfl,q2,r2⟩:=he
   cases ru
   obtain⟨_,_,t1,_⟩:=I.tuple q2
   exact⟨RcAt.bool_tuple _ t1 (by omega),RcNeAt.bool_tuple _ t1 (by omega)⟩
  |lst es=>
   unfold Rep at he
   obtain⟨b,ys,rfl,q2,r2⟩:=he
   cases ru
   obtain⟨_,_,t1,_⟩:=I.list q2
   exact⟨RcAt.bool_list _ t1.isList (by omega),RcNeAt.bool_list _ t1.isList (by omega)⟩
 |int i0=>
  unfold Rep at hd
  subst hd;obtain⟨t0,rfl⟩:=rv
  cases e with
  |non=>
   unfold Rep at he
   subst he;cases ru
   exact⟨RcAt.int_none _ _ ,RcNeAt.int_none _ _ ⟩
  |bl b1=>
   unfold Rep at he
   subst he;cases ru
   exact⟨RcAt.int_bool _ _ _ ,RcNeAt.int_bool _ _ _ ⟩
  |int i1=>
   unfold Rep at he
   subst he;obtain⟨t1,rfl⟩:=ru
   exact⟨RcAt.int_int _ _ _ _ ,RcNeAt.int_int _ _ _ _ ⟩
  |str x1=>
   unfold Rep at he
   subst he;obtain⟨t1,rfl⟩:=ru
   exact⟨RcAt.int_str _ _ _ _ ,RcNeAt.int_str _ _ _ _ ⟩
  |tup es=>
   unfold Rep at he
   obtain⟨b,ys,rfl,q2,r2⟩:=he
   cases ru
   obtain⟨_,_,t1,_⟩:=I.tuple q2
   exact⟨RcAt.int_tuple _ _ t1 (by omega),RcNeAt.int_tuple _ _ t1 (by omega)⟩
  |lst es=>
   unfold Rep at he
   obtain⟨b,ys,rfl,q2,r2⟩:=he
   cases ru
   obtain⟨_,_,t1,_⟩:=I.list q2
   exact⟨RcAt.int_list _ _ t1.isList (by omega),RcNeAt.int_list _ _ t1.isList (by omega)⟩
 |str x0=>
  unfold Rep at hd
  subst hd;obtain⟨t0,rfl⟩:=rv
  cases e with
  |non=>
   unfold Rep at he
   subst he;cases ru
   exact⟨RcAt.str_none _ _ ,RcNeAt.str_none _ _ ⟩
  |bl b1=>
   unfold Rep at he
   subst he;cases ru
   exact⟨RcAt.str_bool _ _ _ ,RcNeAt.str_bool _ _ _ ⟩
  |int i1=>
   unfold Rep at he
   subst he;obtain⟨t1,rfl⟩:=ru
   exact⟨RcAt.str_int _ _ _ _ ,RcNeAt.str_int _ _ _ _ ⟩
  |str x1=>
   unfold Rep at he
   subst he;obtain⟨t1,rfl⟩:=ru
   exact⟨RcAt.str_str _ _ _ _ ,RcNeAt.str_str _ _ _ _ ⟩
  |tup es=>
   unfold Rep at he
   obtain⟨b,ys,rfl,q2,r2⟩:=he
   cases ru
   obtain⟨_,_,t1,_⟩:=I.tuple q2
   exact⟨RcAt.str_tuple _ _ t1 (by omega),RcNeAt.str_tuple _ _ t1 (by omega)⟩
  |lst es=>
   unfold Rep at he
   obtain⟨b,ys,rfl,q2,r2⟩:=he
   cases ru
   obtain⟨_,_,t1,_⟩:=I.list q2
   exact⟨RcAt.str_list _ _ t1.isList (by omega),RcNeAt.str_list _ _ t1.isList (by omega)⟩
 |tup ds=>
  unfold Rep at hd
  obtain⟨a,xs,rfl,q,r⟩:=hd
  cases rv
  rw[deep] at hu
  obtain⟨_,_,t0,_⟩:=I.tuple q
  cases e with
  |non=>
   unfold Rep at he
   subst he;cases ru
   exact⟨RcAt.tuple_none t0 (by omega),RcNeAt.tuple_none t0 (by omega)⟩
  |bl b1=>
   unfold Rep at he
   subst he;cases ru
   exact⟨RcAt.tuple_bool _ t0 (by omega),RcNeAt.tuple_bool _ t0 (by omega)⟩
  |int i1=>
   unfold Rep at he
   subst he;obtain⟨t1,rfl⟩:=ru
   exact⟨RcAt.tuple_int _ _ t0 (by omega),RcNeAt.tuple_int _ _ t0 (by omega)⟩
  |str x1=>
   unfold Rep at he
   subst he;obtain⟨t1,rfl⟩:=ru
   exact⟨RcAt.tuple_str _ _ t0 (by omega),RcNeAt.tuple_str _ _ t0 (by omega)⟩
  |tup es=>
   unfold Rep at he
   obtain⟨b,ys,rfl,q2,r2⟩:=he
   cases ru
   obtain⟨_,_,t1,_⟩:=I.tuple q2
   have z:=ϲh I q r q2 r2 (A:=A) (by omega) fun us ws w1 w2 j v u e1 e2=>ϰ7 I ds es A.in1 xs ys us ws r r2 w1 w2 (by rw[ϕi];omega) j v u e1 e2
   rw[eqD];exact z
  |lst es=>
   unfold Rep at he
   obtain⟨b,ys,rfl,q2,r2⟩:=he
   cases ru
   obtain⟨_,_,t1,_⟩:=I.list q2
   exact⟨RcAt.tuple_list t0 t1.isList (by omega),RcNeAt.tuple_list t0 t1.isList (by omega)⟩
 |lst ds=>
  unfold Rep at hd
  obtain⟨a,xs,rfl,q,r⟩:=hd
  cases rv
  rw[deep] at hu
  obtain⟨_,_,t0,_⟩:=I.list q
  cases e with
  |non=>
   unfold Rep at he
   subst he;cases ru
   exact⟨RcAt.list_none t0.isList (by omega),RcNeAt.list_none t0.isList (by omega)⟩
  |bl b1=>
   unfold Rep at he
   subst he;cases ru
   exact⟨RcAt.list_bool _ t0.isList (by omega),RcNeAt.list_bool _ t0.isList (by omega)⟩
  |int i1=>
   unfold Rep at he
   subst he;obtain⟨t1,rfl⟩:=ru
   exact⟨RcAt.list_int _ _ t0.isList (by omega),RcNeAt.list_int _ _ t0.isList (by omega)⟩
  |str x1=>
   unfold Rep at he
   subst he;obtain⟨t1,rfl⟩:=ru
   exact⟨RcAt.list_str _ _ t0.isList (by omega),RcNeAt.list_str _ _ t0.isList (by omega)⟩
  |tup es=>
   unfold Rep at he
   obtain⟨b,ys,rfl,q2,r2⟩:=he
   cases ru
   obtain⟨_,_,t1,_⟩:=I.tuple q2
   exact⟨RcAt.list_tuple t0.isList t1 (by omega),RcNeAt.list_tuple t0.isList t1 (by omega)⟩
  |lst es=>
   unfold Rep at he
   obtain⟨b,ys,rfl,q2,r2⟩:=he
   cases ru
   obtain⟨_,_,t1,_⟩:=I.list q2
   have z:=ϲf I q r q2 r2 (A:=A) (by omega) fun us ws w1 w2 j v u e1 e2=>ϰ7 I ds es A.in1 xs ys us ws r r2 w1 w2 (by rw[ϕi];omega) j v u e1 e2
   rw[eqD];exact z
def rNeD (K:PySem.W.Frag):R2:=fun x y H Q=>∃d e,Rep K H d x∧Rep K H e y∧deep d≤60∧Q (.bl (!eqD d e)) H
theorem ϲc (hu:X.A.units+64 < cLine):OpR X (compareOp .NotEq) (rNeD X.K):=by
 intro pins s σ H x y v u Q I rx ry h
 obtain⟨d,e,hd,he,hz,q⟩:=h
 exact(rcD (A:=X.A) I d e hd he rx ry (by omega)).2 X.prog X.w X.xe _ ⟨.bl (!eqD d e),H,I,rfl,q⟩
noncomputable def absD (K:PySem.W.Frag) (H:Hp) (u:Value):D:=by
 classical exact if h:∃d v,RelV v u∧Rep K H d v then h.choose else .non
theorem ϵs {d:D}{v:V}{u:Value} (I:Inv X pins σ H s) (r:RelV v u) (h:Rep X.K H d v):absD X.K H u=d:=by
 have hx:∃d v,RelV v u∧Rep X.K H d v:=⟨d,v,r,h⟩
 unfold absD
 rw[dif_pos hx]
 obtain⟨v2,r2,h2⟩:=hx.choose_spec
 have:=r2.inj r
 subst this
 exact Rep.inj I _ _ _ h2 h
theorem ϱF {K:PySem.W.Frag}{H:Hp}{d:D} (f:Value→D):∀{ds:List D}{xs:List V}{us:List Value},Reps K H ds xs→Vals xs us→(∀ d v u,Rep K H d v→RelV v u→f u=d)→(us.any fun u=>eqD (f u) d)=ds.any fun e=>eqD e d
 |[],_,_,h,rv,_=>by rw[h.inv0] at rv;cases rv;rfl
 |e::ds,_,_,h,rv,hf=>by
  obtain⟨v,r,rfl,q,t⟩:=h.inv
  cases rv with
  |cons r1 r2=>rw[List.any_cons,List.any_cons,hf _ _ _ q r1,ϱF f t r2 hf]
theorem ϵf {K:PySem.W.Frag}{H:Hp}:∀{ds:List D}{xs:List V}{us:List Value},Reps K H ds xs→Vals xs us→∀u∈us,∃d v,Rep K H d v∧RelV v u∧deep d≤ϕe ds
 |[],_,_,h,rv,u,hu=>by rw[h.inv0] at rv;cases rv;cases hu
 |e::ds,_,_,h,rv,u,hu=>by
  obtain⟨v,r,rfl,q,t⟩:=h.inv
  cases rv with
  |cons r1 r2=>
   rw[ϕe]
   rcases List.mem_cons.mp hu with z|z
   ·subst z;exact⟨e,v,q,r1,by omega⟩
   ·obtain⟨d,w',a,b,c⟩:=ϵf t r2 u z
    exact⟨d,w',a,b,by omega⟩
def rInD (K:PySem.W.Frag) (neg:Bool):R2:=fun x y H Q=>∃d p xs ds,Rep K H d x∧y=.ref p∧SqL K H p xs∧Reps K H ds xs∧ϕe ds≤60∧Q (.bl (if neg then !ds.any (fun e=>eqD e d) else ds.any fun e=>eqD e d)) H
theorem ϵv (hu:X.A.units+64 < cLine):OpR X (compareOp .NotIn) (rInD X.K true):=by
 intro pins s σ H x y v u Q I rx ry h
 obtain⟨d,p,xs,ds,hd,rfl,hq,hr,hz,q⟩:=h
 cases ry
 obtain⟨its,rv,t,_⟩:=I.list hq
 refine notIn_listAt (fun u=>eqD (absD X.K H u) d) t.isList (fun z hz'=>?_) ?_
 ·obtain⟨e,w',a,b,c⟩:=ϵf hr rv z (by simpa using hz')
  have:=eqAtD I e d X.A.in1 w' x z v a hd b rx (by rw[ϕi];omega)
  rw[ϵs I b a]
  exact this
 ·refine⟨.bl _,H,I,rfl,?_⟩
  have e:=ϱF (d:=d) (absD X.K H) hr rv fun d v u a b=>ϵs I b a
  have e2:(its.toArray.any fun u=>eqD (absD X.K H u) d)=ds.any fun e=>eqD e d:=by rw[← e];simp
  rw[e2];exact q
end
end L3
namespace L3
open PySem PySem.Spec PyProof.Rows L2
def blk (X:Cx) (scope:Scope) (cl:List (Str×Addr)) (N':List Str) (C:Addr) (s₀:Shared) (H₀:Hp) (ex:List Addr) (pn:List (Addr×Obj)):Cx where
 prog:=X.prog
 w:=X.w
 K:=X.K
 mg:=X.mg
 base:=X.base
 A:=X.A
 N:=N'
 s₀:=s₀
 H₀:=H₀
 env:=compEnvC scope cl C X.env
 outer:=X.stack
 stack:=X.stack
 ex:=ex
 fn:=fun _=>false
 calm:=X.calm
 pn:=pn
 xe:=fun _ _=>False
abbrev lobj (its:List Value):Obj:={ cls:=.type "list",data:=.seq its.toArray its.length }
theorem toE {α:Type}{t:Sem α}{Q:α→Shared→Prop}{M:Model}{A:Around}{E:Value→Shared→Prop}{s:Shared} (h:wpAny M A t Q (fun _ _=>False) s):wpAny M A t Q E s:=wpAny_mono h (fun _ _ q=>q) fun _ _ f=>f.elim
section
variable {X:Cx}{pins:List (Addr×Obj)}{σ:L2.St}{H:Hp}{s:Shared}
def PF (X:Cx) (ifs:List Expr) (t:TT):Prop:=∀(pins:List (Addr×Obj)) (s:Shared) (σ:L2.St) (H:Hp) (Q:Bool→Hp→Prop),Inv X pins σ H s→t σ H Q →
 wpAny (model X.prog X.w) X.A (forIn ifs true fun c r=>if r=true then do let ok ← isTrue c X.env (eval c X.env);pure (ForInStep.yield ok) else pure (ForInStep.yield r)) (TP X pins σ Q) X.xe s
def tTrue:TT:=fun _ H Q=>Q true H
theorem ϱ1:PF X [] tTrue:=fun _ _ _ H _ I h=>wpAny_tests_nil ⟨H,I,h⟩
theorem pf_one {c:Expr}{t:TT} (h:PT X c t):PF X [c] t:=fun pins s σ H Q I hq=>wpAny_tests_one (h pins s σ H Q I hq)
theorem Inv.track {D:Addr}{ys:List V}{its:List Value} (I:Inv X pins σ H s) (hD:H D=none) (ho:s.heap.get? D=some (lobj its)) (hv:Vals ys its) (hz:ys.length≤sizeLine)
  (h1:D∈X.ex∨X.s₀.heap.objs.size≤D) (h2:D≠X.env.locals) (h3:∀x c,X.env.cells.lookup x=some c→c≠D) (h4:∀p∈X.pn++pins,p.1≠D):Inv X pins σ (upd H D (.lst ys)) s:=by
 have old:∀b u,H b=some u→upd H D (.lst ys) b=some u:=fun b u e=>by rw[ϖs (ϖw e hD)];exact e
 refine I.step (g':=s.gens) (t':=s.toks) (d':=s.drawn) (h':=s.heap) (ch:=[D]) (fun b hb=>?_) (fun b o _ _ _ e _=>e) (fun b o _ _ _ e _=>⟨o.slots,e⟩) (fun b o hb _ n=>?_) (fun b o _ e=>⟨o,e⟩)
  (fun b xs e=>old b _ e) (fun b o u e=>old b _ e) (fun b ps e=>⟨#[],by rw[old b _ e];simp⟩) (fun m hm=>hm) (fun b u e=>?_) I.bare
 ·have e:b=D:=by simpa using hb
  subst e
  exact⟨h1,h2,h3,h4⟩
 ·rw[ϖs (by simpa using hb)];exact n
 ·by_cases hb:b=D
  ·subst hb
   rw[ϖd] at e;cases e
   exact⟨hz,its,its.length,hv,ho⟩
  ·rw[ϖs hb] at e
   exact(I.hok b u e).stay (fun c v _ q=>q) (fun c q=>old c _ q) fun c xs q=>old c _ q
def lend (js:List (Option Nat)) (σ:L2.St):L2.St:=js.map fun o=>o.bind fun j=>(σ[j]?).join
structure Blk (X:Cx) (scope:Scope) (cl:List (Str×Addr)) (N':List Str) (js:List (Option Nat)):Prop where
 clos:closureFor scope X.env=pure cl
 nocell:∀y∈scope.names,y.2≠.cell
 kind:scope.kind=.function
 names:∀y∈scope.names,y.2=.local→scope.names.lookup y.1=some .local
 sub:∀y c,cl.lookup y=some c→X.env.cells.lookup y=some c
 has:∀y,((relabel scope X.env).names.lookup y=some .cell∨(relabel scope X.env).names.lookup y=some .free)→∃c,cl.lookup y=some c
 len:js.length=N'.length
 lent:∀(i:Nat) y j,N'[i]?=some y→js[i]?=some (some j)→X.N[j]?=some y∧Vis X.env.scope y∧X.env.scope.names.lookup y≠some .local∧(relabel scope X.env).names.lookup y≠some .local
theorem ϲI {scope:Scope}{cl:List (Str×Addr)}{N':List Str}{js:List (Option Nat)}{fp:List Addr}{C:Addr}{h1:Heap}{m:Str→Option Value}{tk:Nat} (B:Blk X scope cl N' js) (I:Inv X pins σ H s) (f:∀b∈fp,FpOk X pins H b)
  (fo:∀b∈fp,∃o,s.heap.get? b=some o) (old:∀b o,s.heap.get? b=some o→h1.get? b=some o) (hns:h1.Ns C m) (hC:s.heap.objs.size≤C) :
  Inv (blk X scope cl N' C s H fp (X.pn++pins)) [] (lend js σ) H { s with heap:=h1,toks:=tk }:=by
 have ltC:∀b o,s.heap.get? b=some o→b≠C:=fun b o e=>Nat.ne_of_lt (Nat.lt_of_lt_of_le (Heap.lt_size e) hC)
 refine⟨⟨I.ok.mod,B.kind,I.ok.glob,I.ok.blt,hC,fun y z c e1 e2=>I.ok.inj y z c (B.sub y c e1) (B.sub z c e2),fun y hy=>B.has y hy,(fun y c e=>nomatch e),I.ok.hd,I.ok.frames,.inl rfl,fun b hb=>?_,I.bs,?_,fun b o e hb=>?_,fun b hb hs=>?_,I.stack,I.stkFree⟩,
  rfl,I.bare,Un.kept old,⟨m,hns,fun i y v e1 e2 e3=>?_⟩,fun y c e=>?_,I.hok.fresh hC,fun y c e=>I.freeC y c (B.sub y c e),fun p hp=>?_,I.hok.kept old,?_⟩
 ·obtain⟨o,e⟩:=fo b hb
  exact⟨ltC b o e,fun y c q=>(f b hb).2.2.2.2.1 y c (B.sub y c q)⟩
 ·exact Nat.le_trans I.ok.bsz I.sz
 ·rcases (f b hb).2.2.2.1 with z|z
  ·exact I.ok.noex b o e z
  ·exact absurd (Nat.lt_of_lt_of_le (Heap.lt_size (I.ok.bs b o e).1) z) (Nat.lt_irrefl _)
 ·rcases List.mem_cons.mp (I.stkSub b hs) with z|z
  ·exact(f b hb).2.1 z
  ·exact(f b hb).2.2.1 z
 ·have e2':(lend js σ)[i]?=some (some v):=e2
  unfold lend at e2'
  rw[List.getElem?_map] at e2'
  cases ej:js[i]? with
  |none=>rw[ej] at e2';cases e2'
  |some o=>
   rw[ej] at e2'
   cases o with
   |none=>cases e2'
   |some j=>
    obtain⟨n1,n2,n3,n4⟩:=B.lent i y j e1 ej
    have es:σ[j]?=some (some v):=by
     cases q:σ[j]? with
     |none=>rw[show(some (some j)).map _=_ from rfl] at e2';simp[q] at e2'
     |some z=>simp[q] at e2';rw[e2']
    obtain⟨m0,hn0,hl0⟩:=I.loc
    obtain⟨u,r,l⟩:=hl0 j y v n1 es n2
    refine⟨u,r,?_⟩
    rcases l with⟨k,_⟩|⟨k,c,ec,z⟩
    ·exact absurd k n3
    ·have k':(relabel scope X.env).names.lookup y=some .cell∨(relabel scope X.env).names.lookup y=some .free:=by
      rcases e3 with q|q
      ·exact absurd q n4
      ·exact q
     obtain⟨c',ec'⟩:=B.has y k'
     have:=B.sub y c' ec'
     rw[ec] at this;cases this
     obtain⟨oc,hoc,hd⟩:=z
     exact .inr ⟨k',c,ec',oc,old _ _ hoc,hd⟩
 ·obtain⟨v,oc,hoc,hd⟩:=I.cell y c (B.sub y c e)
  exact⟨v,oc,old _ _ hoc,hd⟩
 ·have hp':p∈X.pn++pins:=by simpa [blk] using hp
  obtain⟨e,n,ne,nf,d⟩:=I.pin p hp'
  refine⟨old _ _ e,n,ltC _ _ e,fun hs=>?_,d⟩
  rcases List.mem_cons.mp (I.stkSub p.1 hs) with z|z
  ·exact ne z
  ·exact nf z
 ·show(lend js σ).length=N'.length
  unfold lend
  rw[List.length_map,B.len]
theorem ϕm {prog:Program}{w:World}{A:Around}{R:Result→Shared→Prop}{s:Shared}{elt target iter:Expr}{ifs:List Expr}{scope:Scope}{pos:Pos}{it acc:Value}{env:Env} (I:Nat→Shared→Prop)
  (turn:∀n s,I n s→wpAny (model prog w) A (pyNext it) (fun r s₁=>match r with
   |none=>R (.ok .next) s₁
   |some v=>wpAny (model prog w) A (letOwnedTupleGo target it v) (fun _ s₁'=>wpAny (model prog w) A (assign target env v) (fun _ s₂=>
     wpAny (model prog w) A (forIn ifs true fun c r=>if r=true then do let ok ← isTrue c env (eval c env);pure (ForInStep.yield ok) else pure (ForInStep.yield r)) (fun ok s₃=>
      if ok=true then wpAny (model prog w) A (eval elt env) (fun x s₄=>
       wpAny (model prog w) A (call (.builtin "list.append") [acc,x]) (fun _ s₅=>∃m,m < n∧I m s₅) (fun _ _=>False) s₄) (fun _ _=>False) s₃
      else ∃m,m < n∧I m s₃) (fun _ _=>False) s₂) (fun _ _=>False) s₁') (fun _ _=>False) s₁) (fun _ _=>False) s)
  (n:Nat) (h:I n s) :
  codeAny (model prog w) A (.compLoop (.ListComp elt [⟨target,iter,ifs,0⟩] scope pos) 0 it acc env) R s:=by
 refine codeAny_loop rfl I (fun n s hI=>?_) n h
 show wpAny _ A ((compTurn (.ListComp elt [⟨target,iter,ifs,0⟩] scope pos) 0 it acc env).onRaise (fun x=>do noteFrame x env;theTreesLotGoes x)) _ _ s
 refine wpAny_noted ?_
 rw[compTurn_list]
 refine wpAny_bind (wpAny_standAt (wpAny_bind (wpAny_mono (turn n s hI) (fun r s₁ h₁=>?_) fun _ _ f=>f.elim)))
 cases r with
 |none=>exact wpAny_pure h₁
 |some v=>
  refine wpAny_bind (wpAny_mono h₁ (fun _ s₁' h₁'=>?_) fun _ _ f=>f.elim)
  refine wpAny_bind (wpAny_mono h₁' (fun _ s₂ h₂=>wpAny_bind (wpAny_mono h₂ (fun ok s₃ h₃=>?_) fun _ _ f=>f.elim)) fun _ _ f=>f.elim)
  cases ok with
  |false=>exact wpAny_pure ⟨rfl,h₃⟩
  |true=>
   exact wpAny_bind (wpAny_bind (wpAny_mono h₃ (fun x s₄ h₄=>wpAny_bind (wpAny_mono h₄ (fun _ s₅ h₅=>wpAny_pure (wpAny_pure ⟨rfl,h₅⟩)) fun _ _ f=>f.elim)) fun _ _ f=>f.elim))
def ϱ7 (J:It) (g:TG) (tf:TT) (te:TE) (Q:VK) (τ0:L2.St) (H1:Hp):Prop:=∃W:Nat→Nat→List V→L2.St→Hp→Prop,(∃ m,W 0 m [] τ0 H1)∧∀i m ys τ H,W i m ys τ H →
 (J.stop i H∧∀p,H p=none→Q (.ref p) (upd H p (.lst ys)))∨(J.go i H∧∃Nx:List V→L2.St→Hp→Prop,(∀ ys' τ' H',Nx ys' τ' H'→∃m',m' < m∧W (i+1) m' ys' τ' H') ∧
  ∀v H',J.yld i H v H'→g v τ H' fun τ2 H2=>tf τ2 H2 fun b H3=>if b=true then te τ2 H3 fun y H4=>ys.length < sizeLine∧Nx (ys++[y]) τ2 H4 else Nx ys τ2 H3)
def tComp (js:List (Option Nat)) (wi:TI) (g:TG) (tf:TT) (te:TE):TE:=fun σ H Q=>wi σ H fun J H1=>ϱ7 J g tf te Q (lend js σ) H1
theorem ϰO {elt iter tg:Expr}{ifs:List Expr}{scope:Scope}{pos:Pos}{cl:List (Str×Addr)}{N':List Str}{js:List (Option Nat)}{g:TG}{tf:TT}{te:TE}{RR:Value→Addr→Result→Shared→Prop}{Qv:VK}{E:Value→Shared→Prop}{it:Addr}{fp:List Addr}{tn:Nat→Heap→Prop}{J:It}{H2:Hp}{s2:Shared}
  (hc:X.calm=true) (B:Blk X scope cl N' js) (hg:∀C s₀ H₀ ex pn,PG (blk X scope cl N' C s₀ H₀ ex pn) tg g) (hf:∀C s₀ H₀ ex pn,PF (blk X scope cl N' C s₀ H₀ ex pn) ifs tf) (he:∀C s₀ H₀ ex pn,PE (blk X scope cl N' C s₀ H₀ ex pn) elt te)
  (I2:Inv X pins σ H2 s2) (T:Turn X.prog X.w X.K tg J fp it tn) (st2:tn 0 s2.heap) (f2:∀b∈fp,FpOk X pins H2 b) (cg:ϱ7 J g tf te Qv (lend js σ) H2)
  (fin:∀(Dd Cc:Addr) (m:Str→Option Value) (s4:Shared) (Hx:Hp),Inv X pins σ Hx s4→Qv (.ref Dd) Hx→s4.heap.Ns Cc m→Hx Cc=none→Cc≠X.env.locals→X.s₀.heap.objs.size≤Cc→(∀ x c,X.env.cells.lookup x=some c→c≠Cc)→(∀ p∈X.pn++pins,p.1≠Cc) →
   RR (.ref Dd) Cc (.ok .next) s4) :
  wpAny (model X.prog X.w) X.A (newList []) (fun acc s₃=>wpAny (model X.prog X.w) X.A (newFunctionEnv scope X.env.globals cl [] X.env.qual none .none (some X.env)) (fun cenv s₄=>
   codeAny (model X.prog X.w) X.A (.compStart (.ListComp elt [⟨tg,iter,ifs,0⟩] scope pos) 0 (.ref it) acc { cenv with scope:=relabel scope X.env }) (RR acc cenv.locals) s₄) E s₃) E s2:=by
 obtain⟨W,⟨m0,w0⟩,turn⟩:=cg
 refine wpAny_newObj_type (wpAny_newFunctionEnv B.nocell (by intro y hy;simp at hy) (fun h₁ hns₁ hsb₁=>?_) B.kind)
 dsimp only at hns₁ hsb₁⊢
 generalize hG:s2.heap.push { cls:=.type "list",dict:=none,data:=.seq ([]:List Value).toArray }=G at hns₁ hsb₁⊢
 have hC:G.objs.size=s2.heap.objs.size+1:=by rw[← hG,Heap.size_push]
 have hDC:s2.heap.objs.size≠G.objs.size:=by rw[hC];exact Nat.ne_of_lt (Nat.lt_succ_self _)
 have below:∀b,b < s2.heap.objs.size→b≠G.objs.size∧b≠s2.heap.objs.size:=fun b hb=>⟨by rw[hC];exact Nat.ne_of_lt (Nat.lt_succ_of_lt hb),Nat.ne_of_lt hb⟩
 have old:∀b o,s2.heap.get? b=some o→h₁.get? b=some o:=fun b o e=>hsb₁.extBut b o (below b (Heap.lt_size e)).1 (Heap.get?_push_of_some _ (hG▸Heap.get?_push_of_some _ e))
 have hacc:h₁.get? s2.heap.objs.size=some (lobj []):=hsb₁.extBut _ _ hDC (Heap.get?_push_of_some _ (hG▸Heap.get?_push_size _ rfl))
 have fo:∀b∈fp,∃o,s2.heap.get? b=some o:=fun b hb=>let ⟨o,e,_⟩:=T.obj 0 _ st2 b hb;⟨o,e⟩
 have I4:=ϲI (tk:=s2.toks+([]:List (Str×Value)).length) B I2 f2 fo old hns₁ (by rw[hC];exact Nat.le_succ _)
 generalize hD:s2.heap.objs.size=Dd at *
 generalize hCC:G.objs.size=Cc at *
 have st4:tn 0 h₁:=T.keep 0 _ _ st2 fun b _ o e=>old b o e
 have fpne:∀b∈fp,b≠Dd:=fun b hb=>let ⟨o,e⟩:=fo b hb;by rw[← hD];exact Nat.ne_of_lt (Heap.lt_size e)
 have hDfree:H2 Dd=none:=I2.hok.fresh (by rw[hD];exact Nat.le_refl _)
 have hDfs:Dd∉frs X.stack:=fun hb=>by
  rcases List.mem_cons.mp (I2.stkSub _ hb) with z|z
  ·have:=I2.lt;rw[← z,hD] at this;exact Nat.lt_irrefl _ this
  ·exact I2.nofs (a:=Dd) (by rw[hD];exact Nat.le_refl _) z
 have hDcell:∀x c,X.env.cells.lookup x=some c→c≠Dd:=fun x c e z=>by
  obtain⟨v,q⟩:=I2.cell x c e
  have:=q.lt
  rw[z,← hD] at this;exact Nat.lt_irrefl _ this
 have hDpin:∀p∈X.pn++pins,p.1≠Dd:=fun p hp z=>by
  have:=Heap.lt_size (I2.pin p hp).1
  rw[z,← hD] at this;exact Nat.lt_irrefl _ this
 generalize hXb:blk X scope cl N' Cc s2 H2 fp (X.pn++pins)=Xb at I4
 have xP:Xb.prog=X.prog:=by rw[← hXb];rfl
 have xW:Xb.w=X.w:=by rw[← hXb];rfl
 have xK:Xb.K=X.K:=by rw[← hXb];rfl
 have xA:Xb.A=X.A:=by rw[← hXb];rfl
 have xC:Xb.calm=true:=by rw[← hXb];exact hc
 have xL:Xb.env.locals=Cc:=by rw[← hXb];rfl
 have xFs:Xb.fs=frs X.stack:=by rw[← hXb];rfl
 have xEx:Xb.ex=fp:=by rw[← hXb];rfl
 have xPn:Xb.pn=X.pn++pins:=by rw[← hXb];rfl
 have xS:Xb.s₀=s2:=by rw[← hXb];rfl
 have xH:Xb.H₀=H2:=by rw[← hXb];rfl
 have xCl:∀y c,Xb.env.cells.lookup y=some c→X.env.cells.lookup y=some c:=by rw[← hXb];exact B.sub
 have xE:Xb.env=compEnvC scope cl Cc X.env:=by rw[← hXb];rfl
 have xX:Xb.xe=fun _ _=>False:=by rw[← hXb];rfl
 have hg':PG Xb tg g:=by rw[← hXb];exact hg _ _ _ _ _
 have hf':PF Xb ifs tf:=by rw[← hXb];exact hf _ _ _ _ _
 have he':PE Xb elt te:=by rw[← hXb];exact he _ _ _ _ _
 have fok:∀{H':Hp}{o:Obj},(∀ b∈fp,H' b=none)→∀b∈fp,FpOk Xb [(Dd,o)] H' b:=fun {H' o} hn b hb=>by
  obtain⟨o',e'⟩:=fo b hb
  refine⟨hn b hb,?_,?_,.inl (by rw[xEx];exact hb),fun y c q=>(f2 b hb).2.2.2.2.1 y c (xCl y c q),fun p hp=>?_⟩
  ·rw[xL];exact(below b (by have:=Heap.lt_size e';rw[hD] at this;exact this)).1
  ·rw[xFs]
   intro hs
   rcases List.mem_cons.mp (I2.stkSub b hs) with z|z
   ·exact(f2 b hb).2.1 z
   ·exact(f2 b hb).2.2.1 z
  ·rw[xPn] at hp
   rcases List.mem_append.mp hp with z|z
   ·exact(f2 b hb).2.2.2.2.2 p z
   ·rw[List.mem_singleton.mp z];exact(fpne b hb).symm
 have hDC':Dd≠Cc:=by rw[← hD,← hCC];rw[← hCC,← hD] at hDC;exact hDC
 have loop:codeAny (model X.prog X.w) X.A (.compLoop (.ListComp elt [⟨tg,iter,ifs,0⟩] scope pos) 0 (.ref it) (.ref Dd) (compEnvC scope cl Cc X.env)) (RR (.ref Dd) Cc)
   { s2 with heap:=h₁,toks:=s2.toks+([]:List (Str×Value)).length }:=by
  refine ϕm (fun n s'=>∃i ys τ H' its,Inv Xb [(Dd,lobj its)] τ H' s'∧tn i s'.heap∧(∀ b∈fp,H' b=none)∧Vals ys its∧ys.length≤sizeLine∧W i n ys τ H') ?_ m0
   ⟨0,[],_,H2,[],I4.pins_of (fun p hp=>?_),st4,fun b hb=>(f2 b hb).1,.nil,Nat.zero_le _,w0⟩
  ·rintro n s3 ⟨i,ys,τ,H3,its,I3,st3,fr3,hv,hz,w3⟩
   have pD:=I3.pin (Dd,lobj its) (List.mem_append_right _ (List.mem_singleton.mpr rfl))
   rcases turn i n ys τ H3 w3 with⟨stop,qn⟩|⟨go,Nx,hN,step⟩
   ·have hd:=T.done Xb xP xW xK xC i [(Dd,lobj its)] s3 τ H3 (fun _ _=>False) I3 (fok fr3) st3 stop
    rw[xA] at hd
    refine thn hd fun r s4 ⟨hr,I5⟩=>?_
    subst hr
    obtain⟨m,hn,_⟩:=id I5.loc
    rw[xL] at hn
    have pD5:=I5.pin (Dd,lobj its) (List.mem_append_right _ (List.mem_singleton.mpr rfl))
    have ub:=I5.base
    rw[xFs,xEx,xS,xH] at ub
    have hfC:H3 Cc=none:=by have:=I5.free;rw[xL] at this;exact this
    have ok5:HOk X.prog X.w H3 s4.heap:=by have:=I5.hok;rw[xP,xW] at this;exact this
    have IX:Inv X pins σ H3 s4:=I2.call' (s':=s4) (by rw[I5.os,xS]) ub ok5 I5.bare fun b hb=>⟨(f2 b hb).2.2.2.1,(f2 b hb).2.1,(f2 b hb).2.2.2.2.1,(f2 b hb).2.2.2.2.2⟩
    have hlo:X.s₀.heap.objs.size≤Dd:=by rw[← hD];exact I2.sz
    have hloL:Dd≠X.env.locals:=fun z=>by have:=I2.lt;rw[← z,hD] at this;exact Nat.lt_irrefl _ this
    have hCD:Dd≤Cc:=by omega
    refine fin Dd Cc m s4 (upd H3 Dd (.lst ys)) (L3.Inv.track IX pD5.2.1 pD5.1 hv hz (.inr hlo) hloL hDcell hDpin) (qn Dd pD5.2.1) hn (by rw[ϖs hDC'.symm];exact hfC) ?_ (Nat.le_trans hlo hCD) ?_ ?_
    ·intro z;have:=I2.lt;rw[← z,hD] at this;exact Nat.lt_irrefl _ (Nat.lt_of_lt_of_le this hCD)
    ·intro x c e z
     obtain⟨v,q⟩:=I2.cell x c e
     have:=q.lt
     rw[z,hD] at this;exact Nat.lt_irrefl _ (Nat.lt_of_lt_of_le this hCD)
    ·intro p hp z
     have:=Heap.lt_size (I2.pin p hp).1
     rw[z,hD] at this;exact Nat.lt_irrefl _ (Nat.lt_of_lt_of_le this hCD)
   ·have hit:=T.item Xb xP xW xK xC i [(Dd,lobj its)] s3 τ H3 (fun _ _=>False) I3 (fok fr3) st3 go
    rw[xA] at hit
    refine thn hit fun r s4 ⟨u,hr,h4⟩=>?_
    subst hr
    refine thn h4 fun _ s5 ⟨x,H5,I5,r5,y5,st5,fr5⟩=>?_
    have I5':=I5.pinned (fok fr5) (T.obj _ _ st5)
    have ga:=hg' _ s5 τ H5 x u _ I5' r5 (step x H5 y5)
    rw[xP,xW,xA,xE,xX] at ga
    refine thn ga fun _ s6 ⟨τ6,H6,I6,q6⟩=>?_
    have fa:=hf' _ s6 τ6 H6 _ I6 q6
    rw[xP,xW,xA,xE,xX] at fa
    refine thn fa fun ok s7 ⟨H7,I7,q7⟩=>?_
    have back:∀{τ8:L2.St}{H8:Hp}{s8:Shared},Inv Xb ([(Dd,lobj its)]++ϱa fp s5.heap) τ8 H8 s8→tn (i+1) s8.heap∧(∀ b∈fp,H8 b=none):=fun {τ8 H8 s8} I8=>
     ⟨T.keep _ _ _ st5 fun b hb o e=>(I8.pin (b,o) (List.mem_append_right _ (List.mem_append_right _ (ϕl hb e)))).1,fun b hb=>by
      obtain⟨o,e,d⟩:=T.obj _ _ st5 b hb
      exact(I8.pin (b,o) (List.mem_append_right _ (List.mem_append_right _ (ϕl hb e)))).2.1⟩
    cases ok with
    |false=>
     rw[if_neg (by simp)] at q7⊢
     obtain⟨m',hm,w7⟩:=hN _ _ _ q7
     obtain⟨b1,b2⟩:=back I7
     exact⟨m',hm,i+1,ys,τ6,H7,its,I7.unpinned,b1,b2,hv,hz,w7⟩
    |true=>
     rw[if_pos rfl] at q7⊢
     have ea:=he' _ s7 τ6 H7 _ I7 q7
     rw[xP,xW,xA,xE,xX] at ea
     refine thn ea fun yv s8 ⟨y,H8,I8,r8,hlt,n8⟩=>?_
     have pD8:=I8.pin (Dd,lobj its) (List.mem_append_right _ (List.mem_append_left _ (List.mem_singleton.mpr rfl)))
     have hil:its.length=ys.length:=hv.length.symm
     refine append_at (hsz:=by rw[List.size_toArray];omega) pD8.1 fun h' hs' ho'=>?_
     obtain⟨m',hm,w8⟩:=hN _ _ _ n8
     obtain⟨b1,b2⟩:=back I8
     have J1:Inv Xb [] τ6 H8 s8:=I8.pins_of (fun p hp=>nomatch hp)
     have J2:Inv Xb [] τ6 H8 { s8 with heap:=h' }:=J1.turned (t':=s8.toks) (it:=Dd) (fun b o hb e=>(hs'.2 b hb).trans e) pD8.2.1 pD8.2.2.1 (.inr (by rw[xS,hD];exact Nat.le_refl _)) (fun y c q=>hDcell y c (xCl y c q)) fun p hp=>by
      rw[xPn,List.append_nil] at hp
      exact hDpin p hp
     refine⟨m',hm,i+1,ys++[y],τ6,H8,its++[yv],J2.pins_of fun p hp=>?_,T.keep _ _ _ b1 fun b hb o e=>(hs'.2 b (fpne b hb)).trans e,b2,hv.append (.cons r8 .nil),by rw[List.length_append,List.length_singleton];omega,w8⟩
     rw[List.mem_singleton.mp hp]
     refine⟨?_,pD8.2.1,pD8.2.2.1,pD8.2.2.2.1,fun v z=>nomatch z⟩
     show h'.get? Dd=some (lobj (its++[yv]))
     rw[ho']
     show some ({ cls:=.type "list",data:=.seq (its.toArray.push yv) (its.length+1) }:Obj)=some { cls:=.type "list",data:=.seq (its++[yv]).toArray (its++[yv]).length }
     rw[List.length_append,List.length_singleton,List.push_toArray]
  ·rw[List.mem_singleton.mp hp]
   refine⟨hacc,hDfree,?_,?_,fun v z=>nomatch z⟩
   ·rw[xL];rw[← hCC,← hD];rw[← hCC,← hD] at hDC;exact hDC
   ·rw[xFs];exact hDfs
 exact codeAny_compStart_list loop (T.self X.A 0 _ _ _ st4 loop)
theorem ϱi {elt iter tg:Expr}{ifs:List Expr}{scope:Scope}{pos:Pos}{cl:List (Str×Addr)}{N':List Str}{js:List (Option Nat)}{wi:TI}{g:TG}{tf:TT}{te:TE} (hc:X.calm=true) (B:Blk X scope cl N' js) (hi:PI X tg iter wi)
  (hg:∀C s₀ H₀ ex pn,PG (blk X scope cl N' C s₀ H₀ ex pn) tg g) (hf:∀C s₀ H₀ ex pn,PF (blk X scope cl N' C s₀ H₀ ex pn) ifs tf) (he:∀C s₀ H₀ ex pn,PE (blk X scope cl N' C s₀ H₀ ex pn) elt te)
  (hs:∀x,foldedSetIterable iter X.env x=pure x:=by intro _;rfl):PE X (.ListComp elt [⟨tg,iter,ifs,0⟩] scope pos) (tComp js wi g tf te):=by
 intro pins s σ H Q I h
 rw[eval_ListComp]
 refine wpAny_comprehension_free (use:=none) rfl hs B.clos B.kind B.names (thn (hi pins s σ H _ I h) fun xv s1 h1=>thn h1 fun itv s2 h2=>?_)
 obtain⟨it,fp,tn,J,H2,e,I2,T,st2,f2,cg⟩:=h2
 subst e
 refine ϰO (RR:=fun acc C=>compPost (model X.prog X.w) X.A X.xe none (EP X pins σ Q) acc C) hc B hg hf he I2 T st2 f2 cg ?_
 intro Dd Cc m s4 Hx IX q hn hC cL cS cC cP
 refine⟨m,hn,fun h' hs'=>⟨.ref Dd,Hx,?_,rfl,q⟩⟩
 exact IX.turned (t':=s4.toks) (it:=Cc) (fun b o hb e=>(hs'.2 b hb).trans e) hC cL (.inr cS) cC cP
theorem ϱT {i:Nat}{y:Str}{elt iter tg:Expr}{ifs:List Expr}{scope:Scope}{pos spos py:Pos}{cl:List (Str×Addr)}{N':List Str}{js:List (Option Nat)}{wi:TI}{g:TG}{tf:TT}{te:TE} (hN:X.N.Nodup) (hy:X.N[i]?=some y) (hx:Loc X.env.scope y)
  (hsw:swapsWith (.ListComp elt [⟨tg,iter,ifs,0⟩] scope pos) (some (.Name y py)) spos.line X.env=pure true) (hc:X.calm=true) (B:Blk X scope cl N' js) (hi:PI X tg iter wi)
  (hg:∀C s₀ H₀ ex pn,PG (blk X scope cl N' C s₀ H₀ ex pn) tg g) (hf:∀C s₀ H₀ ex pn,PF (blk X scope cl N' C s₀ H₀ ex pn) ifs tf) (he:∀C s₀ H₀ ex pn,PE (blk X scope cl N' C s₀ H₀ ex pn) elt te)
  (hs:∀x,foldedSetIterable iter X.env x=pure x:=by intro _;rfl) (hfn:X.fn y=true∨X.env.scope.names.lookup y=some .local:=by first|exact .inl rfl|exact .inr rfl|assumption) :
  PS X (.Assign [.Name y py] (.ListComp elt [⟨tg,iter,ifs,0⟩] scope pos) spos) (tAsg (tComp js wi g tf te) (ϵV i)):=by
 intro pins s σ H D I h
 rw[exec_Assign_Name_used _ _ _ _ hsw]
 refine wpAny_bind (wpAny_standAt (wpAny_bind ?_))
 show wpAny _ X.A (do let _ ← comprehension (.ListComp elt [⟨tg,iter,ifs,0⟩] scope pos) scope X.env _ (newList []) false (eval iter X.env) (some (assign (.Name y py) X.env))) _ _ s
 refine wpAny_bind (wpAny_mono (wpAny_comprehension_free (use:=some (assign (.Name y py) X.env)) (Q:=fun _ s'=>SP X pins D .next s') rfl hs B.clos B.kind B.names
  (thn (hi pins s σ H _ I h) fun xv s1 h1=>thn h1 fun itv s2 h2=>?_)) (fun _ s' hq=>wpAny_pure (wpAny_pure hq)) fun _ _ e=>e)
 obtain⟨it,fp,tn,J,H2,e,I2,T,st2,f2,cg⟩:=h2
 subst e
 refine ϰO (RR:=fun acc C=>compPost (model X.prog X.w) X.A X.xe (some (assign (.Name y py) X.env)) (fun _ s'=>SP X pins D .next s') acc C) hc B hg hf he I2 T st2 f2 cg ?_
 intro Dd Cc m s4 Hx IX q hn hC cL cS cC cP
 show wpAny _ X.A (assign (.Name y py) X.env (.ref Dd)) _ _ _
 refine wpAny_assign_Name (ϰ2 IX hN hy hx (v:=.ref Dd) rfl (fun s5 I5 ⟨b,hb,hb'⟩=>?_) hfn)
 have hCb:Cc≠b:=fun z=>by
  rcases hb' with w|w
  ·exact cL (z.trans w)
  ·exact cC y b w z.symm
 refine⟨m,hn.sameBut hb hCb,fun h' hs'=>⟨_,Hx,I5.turned (t':=s5.toks) (it:=Cc) (fun b o hb e=>(hs'.2 b hb).trans e) hC cL (.inr cS) cC cP,q⟩⟩
end
def capt (env:Env):List (Str×NameKind)→List (Str×Addr)→List (Str×Addr)
 |[],acc=>acc
 |(n,k)::r,acc=>capt env r (if k == .free then (match env.cells.lookup n with|some c=>(n,c)::acc|none=>acc) else acc)
theorem ϕb {n y:Str}{c:Addr}{acc:List (Str×Addr)}:((n,c)::acc).lookup y=if y == n then some c else acc.lookup y:=by
 rw[List.lookup_cons];cases y == n<;>rfl
theorem ϱJ {env:Env}:∀(names:List (Str×NameKind)) (acc:List (Str×Addr)),(∀ y c,acc.lookup y=some c→env.cells.lookup y=some c)→∀y c,(capt env names acc).lookup y=some c→env.cells.lookup y=some c
 |[],acc,h,y,c,e=>h y c e
 |(n,k)::r,acc,h,y,c,e=>by
  unfold capt at e
  refine ϱJ r _ (fun y c q=>?_) y c e
  split at q
  ·split at q
   ·rename_i c' hc
    rw[ϕb] at q
    split at q
    ·rename_i hy
     cases q
     rw[eq_of_beq hy];exact hc
    ·exact h y c q
   ·exact h y c q
  ·exact h y c q
theorem ϰS {env:Env}{y:Str}:∀(names:List (Str×NameKind)) (acc:List (Str×Addr)),(∃ c,acc.lookup y=some c)→∃c,(capt env names acc).lookup y=some c
 |[],acc,h=>h
 |(n,k)::r,acc,h=>by
  unfold capt
  refine ϰS r _ ?_
  split
  ·split
   ·rw[ϕb]
    split
    ·exact⟨_,rfl⟩
    ·exact h
   ·exact h
  ·exact h
theorem ϱH {env:Env}{y:Str} (hy:(env.cells.lookup y).isSome=true):∀(names:List (Str×NameKind)) (acc:List (Str×Addr)),(y,NameKind.free)∈names→∃c,(capt env names acc).lookup y=some c
 |(n,k)::r,acc,h=>by
  unfold capt
  rcases List.mem_cons.mp h with z|z
  ·cases z
   refine ϰS r _ ?_
   obtain⟨c,hc⟩:=Option.isSome_iff_exists.mp hy
   rw[if_pos (by rfl),hc]
   exact⟨c,by rw[ϕb,if_pos (beq_self_eq_true y)]⟩
  ·exact ϱH hy r _ z
theorem ϰP {scope:Scope}{env:Env}{y:Str} (h0:∀z∈scope.names,z.2≠.cell) (h:(relabel scope env).names.lookup y=some .cell∨(relabel scope env).names.lookup y=some .free):(y,NameKind.free)∈scope.names:=by
 have mem:∃k,(k=NameKind.cell∨k=NameKind.free)∧(y,k)∈(relabel scope env).names:=by
  rcases h with h|h
  ·exact⟨_,.inl rfl,PySem.mem_of_lookup h⟩
  ·exact⟨_,.inr rfl,PySem.mem_of_lookup h⟩
 obtain⟨k,hk,hm⟩:=mem
 unfold relabel at hm
 obtain⟨⟨n,k'⟩,hm',e⟩:=List.mem_map.mp hm
 simp only at e
 split at e
 ·rename_i hc
  cases e
  have:k'=.free:=by
   simp only[Bool.and_eq_true,beq_iff_eq] at hc
   exact hc.1.1
  rw[← this];exact hm'
 ·cases e
  rcases hk with rfl|rfl
  ·exact absurd rfl (h0 _ hm')
  ·exact hm'
def ϲS (scope:Scope) (env:Env):Bool:=scope.names.all fun y=>y.2 != .free || (env.cells.lookup y.1).isSome
def ϕP (X:Cx) (scope:Scope):List Str→List (Option Nat)→Bool
 |[],[]=>true
 |y::N,o::js=>(match o with
  |none=>true
  |some j=>X.N[j]? == some y && (X.env.scope.names.lookup y == some .cell || X.env.scope.names.lookup y == some .free) && (relabel scope X.env).names.lookup y != some .local) && ϕP X scope N js
 |_,_=>false
theorem ϕO {X:Cx}{scope:Scope}:∀{N:List Str}{js:List (Option Nat)},ϕP X scope N js=true→js.length=N.length∧∀(i:Nat) y j,N[i]?=some y→js[i]?=some (some j)→X.N[j]?=some y∧Vis X.env.scope y∧X.env.scope.names.lookup y≠some .local∧(relabel scope X.env).names.lookup y≠some .local
 |[],[],_=>⟨rfl,fun i y j h=>by simp at h⟩
 |[],_::_,h=>by simp[ϕP] at h
 |_::_,[],h=>by simp[ϕP] at h
 |z::N,o::js,h=>by
  unfold ϕP at h
  rw[Bool.and_eq_true] at h
  obtain⟨l,t⟩:=ϕO h.2
  refine⟨by rw[List.length_cons,List.length_cons,l],fun i y j h1 h2=>?_⟩
  cases i with
  |zero=>
   simp at h1 h2
   subst h1 h2
   have h':=h.1
   simp only[Bool.and_eq_true,Bool.or_eq_true,beq_iff_eq,bne_iff_ne] at h'
   refine⟨h'.1.1,?_,?_,h'.2⟩
   ·rcases h'.1.2 with q|q
    ·exact .inr (.inl q)
    ·exact .inr (.inr q)
   ·rcases h'.1.2 with q|q<;>rw[q]<;>decide
  |succ i=>exact t i y j (by simpa using h1) (by simpa using h2)
theorem ϱD {X:Cx}{scope:Scope}{N':List Str}{js:List (Option Nat)} (clos:closureFor scope X.env=pure (capt X.env scope.names [])) (nocell:∀y∈scope.names,y.2≠.cell) (kind:scope.kind=.function)
  (names:∀y∈scope.names,y.2=.local→scope.names.lookup y.1=some .local) (free:ϲS scope X.env=true) (lent:ϕP X scope N' js=true):Blk X scope (capt X.env scope.names []) N' js where
 clos:=clos
 nocell:=nocell
 kind:=kind
 names:=names
 sub:=ϱJ _ _ fun y c e=>nomatch e
 has:=fun y h=>by
  have hm:=ϰP nocell h
  have hf:=List.all_eq_true.mp free _ hm
  exact ϱH (by simpa using hf) _ _ hm
 len:=(ϕO lent).1
 lent:=(ϕO lent).2
theorem ϕA {K:PySem.W.Frag}{a:Addr}{xs:List V}{g:TG}{tf:TT}{te:TE}{τ:L2.St}{H:Hp}{Q:VK} (Pv:Nat→List V→L2.St→Hp→Prop) (h0:Pv 0 [] τ H) (hl:∀i ys τ H,Pv i ys τ H→SqL K H a xs)
  (hs:∀i x ys τ H,xs[i]?=some x→Pv i ys τ H→g x τ H fun τ2 H2=>tf τ2 H2 fun b H3=>if b=true then te τ2 H3 fun y H4=>ys.length < sizeLine∧Pv (i+1) (ys++[y]) τ2 H4 else Pv (i+1) ys τ2 H3)
  (hd:∀ys τ H,Pv xs.length ys τ H→∀p,H p=none→Q (.ref p) (upd H p (.lst ys))) :
  ϱ7 (Itl K a) g tf te Q τ H:=by
 refine⟨fun i m ys τ H=>m=xs.length-i∧i≤xs.length∧Pv i ys τ H,⟨xs.length,by simp,Nat.zero_le _,h0⟩,?_⟩
 rintro i m ys τ H ⟨rfl,hi,p⟩
 have q:=hl i ys τ H p
 by_cases hlt:i < xs.length
 ·refine .inr ⟨⟨xs,xs[i],q,by simp[hlt]⟩,Pv (i+1),fun ys' τ' H' p'=>⟨xs.length-(i+1),by omega,rfl,hlt,p'⟩,fun x H' y=>?_⟩
  obtain⟨e,y⟩:=y
  subst e
  exact hs i x ys τ _ (y xs q) p
 ·have e:i=xs.length:=by omega
  subst e
  exact .inl ⟨⟨xs,q,Nat.le_refl _⟩,hd ys τ H p⟩
end L3
namespace L3
open PySem PySem.Spec PyProof.Rows L2
section
variable {prog:Program}{w:World}{A:Around}{E:Value→Shared→Prop}{s:Shared}{l:Addr}{xs:Array Value}
end
section
variable {X:Cx}
end
end L3
namespace L3
open PySem PySem.Spec PyProof.Rows L2
section
variable {X:Cx}{e st:Expr}{te ts:TE}{pos p2:Pos}
end
end L3
namespace L3
open PySem PySem.Spec PyProof.Rows L2
section
variable {rest:List Expr}{pos:Pos}{env:Env}
theorem ϱj {es:List Expr}{k:Nat}:starEach (.Tuple es k pos::rest) env=(false,eval (.Tuple es k pos) env)::starEach rest env:=rfl
theorem ϱW {es:List Expr}:starEach (.List es pos::rest) env=(false,eval (.List es pos) env)::starEach rest env:=rfl
theorem ϖJ {l i:Expr}:starEach (.Subscript l i pos::rest) env=(false,eval (.Subscript l i pos) env)::starEach rest env:=rfl
theorem ϱw {l r:Expr}{o:Operator}:starEach (.BinOp l o r pos::rest) env=(false,eval (.BinOp l o r pos) env)::starEach rest env:=rfl
theorem ϑ7 {f:Expr}{es:List Expr}{ks:List Keyword}:starEach (.Call f es ks pos::rest) env=(false,eval (.Call f es ks pos) env)::starEach rest env:=rfl
end
end L3
namespace ST
open PySem PySem.SetTable
def it:Nat→Nat→Nat
 |0,x=>x
 |n+1,x=>it n (5*x+1)
def adv (mask:Nat) (p:Probe):Probe:=
 if p.more > 0 then { p with j:=p.j+1,more:=p.more-1 } else
 { p with j:=(leap mask p.i p.perturb).1,more:=runEnd mask (leap mask p.i p.perturb).1-(leap mask p.i p.perturb).1,i:=(leap mask p.i p.perturb).1,perturb:=(leap mask p.i p.perturb).2 }
def ϡa (mask i perturb:Nat):Probe:={ j:=i,more:=runEnd mask i-i,i,perturb,dummy:=none }
def st (mask:Nat) (h:Int):Probe:=ϡa mask (bits h % (mask+1)) (bits h)
def itr (mask:Nat):Nat→Probe→Probe
 |0,p=>p
 |n+1,p=>itr mask n (adv mask p)
def pos (mask:Nat) (h:Int) (n:Nat):Nat:=(itr mask n (st mask h)).j
def bk (mask:Nat):Nat→Nat×Nat→Nat×Nat
 |0,x=>x
 |m+1,x=>bk mask m (leap mask x.1 x.2)
end ST
namespace ST
open PySem PySem.SetTable
end ST
namespace ST
open PySem PySem.SetTable
end ST
namespace ST
open PySem PySem.SetTable
end ST
namespace PySem
section
variable {prog:Program}{w:World}{K:Type} [DecidableEq K] (knd:KeyKind prog w K)
variable {knd}{A:Around}{E:Value→Shared→Prop}{s:Shared}
end
end PySem
namespace PySem
section
variable {prog:Program}{w:World}{K:Type} [DecidableEq K] {knd:KeyKind prog w K}{A:Around}{E:Value→Shared→Prop}{s:Shared}
open ST in
end
end PySem
namespace PySem
section
variable {prog:Program}{w:World}{K:Type} [DecidableEq K] {knd:KeyKind prog w K}{A:Around}{E:Value→Shared→Prop}{s:Shared}
open ST in
end
end PySem
namespace PySem
section
variable {prog:Program}{w:World}{A:Around}{E:Value→Shared→Prop}{s:Shared}
end
end PySem
namespace PySem
section
variable {prog:Program}{w:World}{B:Around}{E:Value→Shared→Prop}{s:Shared}
end
end PySem
namespace L3
open PySem PySem.Spec PyProof.Rows L2
def ndist {κ:Type} [DecidableEq κ]:List κ→Nat
 |[]=>0
 |x::xs=>if x∈xs then ndist xs else ndist xs+1
section
variable {X:Cx}
end
end L3
namespace L3
open PySem PySem.Spec PyProof.Rows L2
section
variable {X:Cx}
end
end L3
namespace L3
open PySem PySem.Spec PyProof.Rows L2
abbrev Mk:=Int×Str
abbrev Stp:=Int×Str×Str×Int
def Grow (H H':Hp):Prop:=∀b o,H b=some o→(∀ xs,o≠.lst xs)→H' b=some o
theorem Same.grow {H H':Hp} (g:Same H H'):Grow H H':=fun b o h _=>g b o h
theorem ϰu {H:Hp}{p:Addr}{xs:List V} (h:H p=some (.lst xs)) (o:HO):Grow H (upd H p o):=fun b u q n=>by
 rw[ϖs]
 ·exact q
 ·rintro rfl;rw[h] at q;cases q;exact n xs rfl
theorem Grow.seqT {K:PySem.W.Frag}{H H':Hp}{a:Addr}{xs:List V} (e:Grow H H') (h:SqT K H a xs):SqT K H' a xs:=by
 rcases h with (h|⟨o,h⟩)|h
 ·exact .inl (.inl (e _ _ h (by intro _ q;cases q)))
 ·exact .inl (.inr ⟨o,e _ _ h (by intro _ q;cases q)⟩)
 ·exact .inr h
def MkV (K:PySem.W.Frag) (H:Hp) (m:Mk) (v:V):Prop:=∃b,v=.ref b∧SqT K H b [.int m.1,.str m.2]
def StV (K:PySem.W.Frag) (H:Hp) (t:Stp) (v:V):Prop:=∃b,v=.ref b∧SqT K H b [.int t.1,.str t.2.1,.str t.2.2.1,.int t.2.2.2]
theorem MkV.mono {K:PySem.W.Frag}{H H':Hp}{m:Mk}{v:V} (g:Grow H H'):MkV K H m v→MkV K H' m v:=fun⟨b,e,h⟩=>⟨b,e,g.seqT h⟩
theorem StV.mono {K:PySem.W.Frag}{H H':Hp}{m:Stp}{v:V} (g:Grow H H'):StV K H m v→StV K H' m v:=fun⟨b,e,h⟩=>⟨b,e,g.seqT h⟩
theorem ϖg {α β:Type}{F G:α→β→Prop} (h:∀a b,F a b→G a b):∀{xs:List α}{ys:List β},Paired F xs ys→Paired G xs ys
 |_,_,.nil=>.nil
 |_,_,.cons p q=>.cons (h _ _ p) (ϖg h q)
theorem ϖD {α β:Type}{F:α→β→Prop}:∀{xs xs':List α}{ys ys':List β},Paired F xs ys→Paired F xs' ys'→Paired F (xs++xs') (ys++ys')
 |_,_,_,_,.nil,q=>q
 |_,_,_,_,.cons p r,q=>.cons p (ϖD r q)
theorem ϖX {α β:Type}{F:α→β→Prop}:∀{xs:List α}{ys:List β}{i:Nat}{y:β},Paired F xs ys→ys[i]?=some y→∃x,xs[i]?=some x∧F x y
 |_,_,_,_,.nil,e=>by simp at e
 |_,_,0,_,.cons p _,e=>by simp at e;subst e;exact⟨_,rfl,p⟩
 |_,_,i+1,y,.cons _ q,e=>by
  obtain⟨x,h1,h2⟩:=ϖX (i:=i) (y:=y) q (by simpa using e)
  exact⟨x,by simpa using h1,h2⟩
structure Scr where
 signs:Str
 rooms:Int
 begins:List Mk
 steps:List Stp
 ends:List Mk
def ScV (K:PySem.W.Frag) (H:Hp) (s:Scr) (v:V) (pb ps pe:Addr):Prop:=∃a xb xs xe,v=.ref a∧SqT K H a [.str s.signs,.int s.rooms,.ref pb,.ref ps,.ref pe]∧SqL K H pb xb∧SqL K H ps xs∧SqL K H pe xe ∧
 Paired (MkV K H) s.begins xb∧Paired (StV K H) s.steps xs∧Paired (MkV K H) s.ends xe
theorem ScV.mono {K:PySem.W.Frag}{H H':Hp}{s:Scr}{v:V}{pb ps pe:Addr} (g:Same H H'):ScV K H s v pb ps pe→ScV K H' s v pb ps pe
 |⟨a,xb,xs,xe,e,h1,h2,h3,h4,h5,h6,h7⟩=>⟨a,xb,xs,xe,e,Same.seqT g h1,g.seq h2,g.seq h3,g.seq h4,ϖg (fun _ _=>MkV.mono (Same.grow g)) h5,ϖg (fun _ _=>StV.mono (Same.grow g)) h6,ϖg (fun _ _=>MkV.mono (Same.grow g)) h7⟩
def dMk (m:Mk):D:=.tup [.int m.1,.str m.2]
def dSt (t:Stp):D:=.tup [.int t.1,.str t.2.1,.str t.2.2.1,.int t.2.2.2]
def dScr (s:Scr):D:=.tup [.str s.signs,.int s.rooms,.lst (s.begins.map dMk),.lst (s.steps.map dSt),.lst (s.ends.map dMk)]
theorem ϕI {K:PySem.W.Frag}{H:Hp} (i:Int):Rep K H (.int i) (.int i):=by unfold Rep;rfl
theorem ϰI {K:PySem.W.Frag}{H:Hp} (x:Str):Rep K H (.str x) (.str x):=by unfold Rep;rfl
theorem ϰw {K:PySem.W.Frag}{H:Hp}{a:Addr}{xs:List V}{ds:List D} (h:SqT K H a xs) (r:Reps K H ds xs):Rep K H (.tup ds) (.ref a):=by unfold Rep;exact⟨a,xs,rfl,h,r⟩
theorem ϰh {K:PySem.W.Frag}{H:Hp}{a:Addr}{xs:List V}{ds:List D} (h:SqL K H a xs) (r:Reps K H ds xs):Rep K H (.lst ds) (.ref a):=by unfold Rep;exact⟨a,xs,rfl,h,r⟩
theorem MkV.rep {K:PySem.W.Frag}{H:Hp}{m:Mk}{v:V}:MkV K H m v→Rep K H (dMk m) v
 |⟨_,e,h⟩=>by subst e;exact ϰw h (.cons (ϕI _) (.cons (ϰI _) .nil))
theorem StV.rep {K:PySem.W.Frag}{H:Hp}{m:Stp}{v:V}:StV K H m v→Rep K H (dSt m) v
 |⟨_,e,h⟩=>by subst e;exact ϰw h (.cons (ϕI _) (.cons (ϰI _) (.cons (ϰI _) (.cons (ϕI _) .nil))))
theorem ϕU {K:PySem.W.Frag}{H:Hp}{α:Type}{F:α→V→Prop}{f:α→D} (h:∀a v,F a v→Rep K H (f a) v):∀{xs:List α}{vs:List V},Paired F xs vs→Reps K H (xs.map f) vs
 |_,_,.nil=>.nil
 |_,_,.cons p q=>.cons (h _ _ p) (ϕU h q)
theorem ScV.rep {K:PySem.W.Frag}{H:Hp}{s:Scr}{v:V}{pb ps pe:Addr}:ScV K H s v pb ps pe→Rep K H (dScr s) v
 |⟨a,xb,xs,xe,e,h1,h2,h3,h4,h5,h6,h7⟩=>by
  subst e
  exact ϰw h1 (.cons (ϰI _) (.cons (ϕI _) (.cons (ϰh h2 (ϕU (f:=dMk) (F:=MkV K H) (fun _ _ h=>MkV.rep h) h5)) (.cons (ϰh h3 (ϕU (f:=dSt) (F:=StV K H) (fun _ _ h=>StV.rep h) h6)) (.cons (ϰh h4 (ϕU (f:=dMk) (F:=MkV K H) (fun _ _ h=>MkV.rep h) h7)) .nil)))))
theorem ϑS {α:Type} (f:α→D) (n:Nat) (h:∀a,deep (f a)≤n):∀xs:List α,ϕe (xs.map f)≤n
 |[]=>by rw[List.map_nil,ϕe];exact Nat.zero_le _
 |x::xs=>by
  have h1:=h x
  have h2:=ϑS f n h xs
  rw[List.map_cons,ϕe];omega
theorem ϕ2 (m:Mk):deep (dMk m)≤1:=by unfold dMk;simp[deep,ϕe]
theorem ϱG (m:Stp):deep (dSt m)≤1:=by unfold dSt;simp[deep,ϕe]
theorem ϵK (s:Scr):deep (dScr s)≤3:=by
 have h1:=ϑS dMk 1 ϕ2 s.begins
 have h2:=ϑS dSt 1 ϱG s.steps
 have h3:=ϑS dMk 1 ϕ2 s.ends
 unfold dScr
 simp only[deep,ϕe]
 omega
theorem ϵk (a b:Mk):eqD (dMk a) (dMk b)=decide (a=b):=by
 obtain⟨i,x⟩:=a;obtain⟨j,y⟩:=b
 unfold dMk
 simp only[eqD,eqDs,Bool.and_true]
 by_cases h1:i=j<;>by_cases h2:x=y<;>simp[h1,h2]
theorem ϲm (a b:Stp):eqD (dSt a) (dSt b)=decide (a=b):=by
 obtain⟨i,x,z,k⟩:=a;obtain⟨j,y,u,l⟩:=b
 unfold dSt
 simp only[eqD,eqDs,Bool.and_true]
 by_cases h1:i=j<;>by_cases h2:x=y<;>by_cases h3:z=u<;>by_cases h4:k=l<;>simp[h1,h2,h3,h4]
theorem ϰH {α:Type} [DecidableEq α] (f:α→D) (h:∀a b,eqD (f a) (f b)=decide (a=b)) (x:α):∀xs:List α,((xs.map f).any fun e=>eqD e (f x))=decide (x∈xs)
 |[]=>by simp
 |y::ys=>by
  rw[List.map_cons,List.any_cons,ϰH f h x ys,h]
  by_cases c:y=x
  ·simp[c]
  ·simp[c,show ¬ x=y from fun q=>c q.symm]
section
variable {X:Cx}
theorem ϖt {x:Str}{i:Int}{pos:Pos} (hg:Gl X x) (hm:∃t,X.mg x=some (.int i t)) (hd:(x == ("__debug__":Str))=false:=by decide):PE X (.Name x pos) (tC (.int i)):=by
 obtain⟨t,hm⟩:=hm
 exact ϵL hg hm ⟨t,rfl⟩ hd
end
theorem kIx {X:Cx}{K:PySem.W.Frag} (r:PySem.W.Frag→R2) (h:IxR X (r X.K)) (e:X.K=K:=by rfl):IxR X (r K):=e▸h
theorem kOp {X:Cx}{K:PySem.W.Frag}{f:Value→Value→Sem Value} (r:PySem.W.Frag→R2) (h:OpR X f (r X.K)) (e:X.K=K:=by rfl):OpR X f (r K):=e▸h
def rLenS (K:PySem.W.Frag):List V→Hp→VK→Prop:=fun xs H Q=>∃p ys,xs=[.ref p]∧(SqL K H p ys∨SqT K H p ys)∧Q (.int ys.length) H
theorem kLen {X:Cx}{K:PySem.W.Frag} (e:X.K=K:=by rfl):ϕ_ X (.builtin "len") (rLenS K):=e▸ϰ3
end L3
namespace L3
open PySem PySem.Spec PyProof.Rows L2
theorem ObjOk.there {P:Program}{w:World}{H:Hp}{h:Heap}:∀{a:Addr}{o:HO},ObjOk P w H h a o→∃ob,h.get? a=some ob
 |_,.lst _,x=>let ⟨_,_,_,_,e⟩:=x;⟨_,e⟩
 |_,.tup _,x=>let ⟨_,_,_,o,e,_⟩:=x;⟨o,e⟩
 |_,.dK _,x=>let ⟨_,_,_,_,o,_,_,e,_⟩:=x;⟨o,e⟩
 |_,.dT _,x=>let ⟨_,_,_,_,o,_,_,e,_⟩:=x;⟨o,e⟩
 |_,.set _ _,x=>let ⟨o,_,_,_,e,_⟩:=x;⟨o,e⟩
 |_,.ins _ _ _,x=>let ⟨_,_,_,e,_⟩:=x;⟨_,e⟩
 |_,.own _,x=>x
 |_,.xd _,x=>let ⟨_,⟨o,_,_,e,_⟩,_⟩:=x;⟨o,e⟩
 |_,.met _ _,x=>⟨_,x⟩
 |_,.rng _ _,x=>let ⟨_,_,_,e⟩:=x;⟨_,e⟩
 |_,.frz o _,x=>⟨o,x.1⟩
 |_,.tbl _,x=>⟨_,x⟩
 |_,.ext _,x=>x.2.1
structure Fly (P:Program) (w:World) (st:List Env) (H:Hp) (s:Shared) (x C:Addr) (H':Hp) (s':Shared) (B:Heap):Prop where
 os:s'.os=s.os
 bare:AllBare s'.gens
 un:Un (frs st) [] H H' s.heap s'.heap
 hok:HOk P w H' s'.heap
 fl:∃t,Heap.FlyingW B st x (.ref C) (.ref t) s'.heap
 new:s.heap.get? x=none
 xf:H' x=none
 tr:∀b o,H' b≠none→s'.heap.get? b=some o→B.get? b=some o
 ol:∀b o,s.heap.get? b=some o→H b=none→b∉frs st→B.get? b=some o
 th:∀b o,s.heap.get? b=some o→b∉frs st→∃o',B.get? b=some o'
 ff:∀b∈frs st,H' b=none
def CX1 (P:Program) (w:World):CXT:=fun st H s E e s'=>∃x C H' B,e=.ref x∧Fly P w st H s x C H' s' B∧E (.ref C) none H'
section
variable {P:Program}{w:World}{st:List Env}{H H':Hp}{s s':Shared}{x C:Addr}{B:Heap}
theorem Fly.turn (F:Fly P w st H s x C H' s' B) {h2:Heap} (k:B.StaysIn h2) (u:s'.heap.UpToSlots h2):Un (frs st) [] H H' s.heap h2∧HOk P w H' h2:=by
 have slot:∀b∈frs st,∀o,s'.heap.get? b=some o→∃sl,h2.get? b=some { o with slots:=sl }:=fun b hb o q=>by
  obtain⟨t,fl⟩:=F.fl
  obtain⟨_,o',e,d⟩:=fl.2.2.1.mem hb
  rw[q] at e;cases e
  exact u b o q d
 refine⟨⟨fun b o q n hb _=>k b o (F.ol b o q n hb),fun b o q n hb hx=>?_,F.un.free,fun b o q hx=>?_,F.un.tups,F.un.frzs,F.un.tbls⟩,fun a o e=>?_⟩
 ·obtain⟨sl,e⟩:=F.un.slot b o q n hb hx
  obtain⟨sl',e'⟩:=slot b hb _ e
  exact⟨sl',e'⟩
 ·by_cases hb:b∈frs st
  ·obtain⟨o',e⟩:=F.un.there b o q hx
   obtain⟨sl,e'⟩:=slot b hb _ e
   exact⟨_,e'⟩
  ·obtain⟨o',e⟩:=F.th b o q hb
   exact⟨o',k b o' e⟩
 ·refine(F.hok a o e).stay (fun b v hb q=>?_) (fun _ q=>q) fun _ _ q=>q
  refine k b v (F.tr b v ?_ q)
  rcases hb with rfl|hb
  ·rw[e];simp
  ·rw[hb];simp
end
section
variable {X:Cx}{pins:List (Addr×Obj)}{σ:L2.St}{H:Hp}{s:Shared}
theorem ϵE {M:Model}{h2:Heap}{x C:Addr}{vs:List Value}{Q:Unit→Shared→Prop}{E:Value→Shared→Prop} (I:Inv X pins σ H s) (hst:X.stack=X.env::X.outer) (hfm:X.env.frame=some X.env.locals) (hex:X.ex=[]) (hx:Heap.MadeExcOf s.heap h2 x (.ref C) vs)
  (q:∀h' B,Fly X.prog X.w X.outer X.H₀ X.s₀ x C H { s with heap:=h' } B→Q () { s with heap:=h' }):wpAny M X.A (leaving X.env (.ref x)) Q E { s with heap:=h2 }:=by
 have hfr:X.A.frames=some (X.env::X.outer):=by rw[← hst];exact I.ok.frames
 have hstk:=I.stack
 have inB:∀b o,s.heap.get? b=some o→b∉frs X.stack→(PySem.W.hideAll s.heap (frs X.stack)).get? b=some o:=fun b o e n=>PySem.W.hideAll_get _ e n
 have nst:∀b o,X.s₀.heap.get? b=some o→b∉X.fs→b∉frs X.stack:=fun b o e n hb=>by
  rcases List.mem_cons.mp (I.stkSub b hb) with z|z
  ·exact absurd (Nat.lt_of_lt_of_le (Heap.lt_size e) I.ok.above) (by rw[z];exact Nat.lt_irrefl _)
  ·exact n z
 have noex:∀b:Addr,b∉X.ex:=fun b=>by rw[hex];simp
 have fsub:∀b∈X.fs,b∈frs X.stack:=fun b hb=>by
  rw[hst];unfold frs;rw[List.filterMap_cons,hfm];exact List.mem_cons_of_mem _ hb
 have hff:=PySem.W.funFrames_hide (as:=frs X.stack) hstk (fun env he a ha=>List.mem_filterMap.mpr ⟨env,he,ha⟩)
 rw[hst] at hff
 refine wpAny_leaves_madeW (base:=PySem.W.hideAll s.heap (frs (X.env::X.outer))) (h:=s.heap) (s:={ s with heap:=h2 }) (L:=X.env.locals) hfr hfm (fun b o e=>PySem.W.of_hideAll _ e) hff hx fun h' t f1 f2 f3 f4=>?_
 rw[← hst] at f1 f3
 have keepB:∀b o,s.heap.get? b=some o→b∉frs X.stack→h'.get? b=some o:=fun b o e n=>f1.1 b o (inB b o e n)
 have slot:∀b∈frs X.stack,∀o,s.heap.get? b=some o→∃sl,h'.get? b=some { o with slots:=sl }:=fun b hb o e=>by
  obtain⟨_,o',e',d⟩:=hstk.mem hb
  rw[e] at e';cases e'
  exact f4 b o (hx.keeps b o e) d
 have xnew:X.s₀.heap.get? x=none:=by
  cases e:X.s₀.heap.get? x with
  |none=>rfl
  |some o=>
   obtain⟨o',e'⟩:=I.base.there x o e (noex x)
   rw[hx.new] at e';cases e'
 refine q h' _ ⟨I.os,I.bare,⟨fun b o e n hb _=>?_,fun b o e n hb _=>?_,fun b o e n _=>I.base.free b o e n (noex b),fun b o e _=>?_,I.base.tups,I.base.frzs,I.base.tbls⟩,fun a u e=>?_,⟨t,f1⟩,xnew,?_,fun b o hb e=>?_,fun b o e n hb=>?_,fun b o e hb=>?_,fun b hb=>?_⟩
 ·exact keepB b o (I.base.keep b o e n hb (noex b)) (nst b o e hb)
 ·obtain⟨sl,e1⟩:=I.base.slot b o e n hb (noex b)
  obtain⟨sl',e2⟩:=slot b (fsub b hb) _ e1
  exact⟨sl',e2⟩
 ·obtain⟨o',e1⟩:=I.base.there b o e (noex b)
  by_cases hb:b∈frs X.stack
  ·obtain⟨sl,e2⟩:=slot b hb _ e1
   exact⟨_,e2⟩
  ·exact⟨o',keepB b o' e1 hb⟩
 ·refine(I.hok a u e).stay (fun b v hb q=>keepB b v q fun z=>?_) (fun _ q=>q) fun _ _ q=>q
  have:=I.stkFree b z
  rcases hb with rfl|hb
  ·rw[e] at this;cases this
  ·rw[hb] at this;cases this
 ·cases e:H x with
  |none=>rfl
  |some u=>
   obtain⟨o,e'⟩:=ObjOk.there (I.hok x u e)
   rw[hx.new] at e';cases e'
 ·cases e':H b with
  |none=>exact absurd e' hb
  |some u=>
   obtain⟨o1,e1⟩:=ObjOk.there (I.hok b u e')
   have nb:b∉frs X.stack:=fun z=>by have:=I.stkFree b z;rw[e'] at this;cases this
   have e2:=keepB b o1 e1 nb
   have e3:h'.get? b=some o:=e
   rw[e3] at e2;cases e2
   exact inB b o e1 nb
 ·exact inB b o (I.base.keep b o e n hb (noex b)) (nst b o e hb)
 ·obtain⟨o',e1⟩:=I.base.there b o e (noex b)
  exact⟨o',inB b o' e1 (nst b o e hb)⟩
 ·exact I.stkFree b (fsub b hb)
theorem ϵQ {M:Model}{s2:Shared}{H2:Hp}{x C:Addr}{B:Heap}{Q:Unit→Shared→Prop}{E:Value→Shared→Prop} (I:Inv X pins σ H s) (hst:X.stack=X.env::X.outer) (hfm:X.env.frame=some X.env.locals) (hex:X.ex=[]) (F:Fly X.prog X.w X.stack H s x C H2 s2 B)
  (q:∀h',Fly X.prog X.w X.outer X.H₀ X.s₀ x C H2 { s2 with heap:=h' } B→Q () { s2 with heap:=h' }):wpAny M X.A (leaving X.env (.ref x)) Q E s2:=by
 have hfr:X.A.frames=some (X.env::X.outer):=by rw[← hst];exact I.ok.frames
 obtain⟨t,fl⟩:=F.fl
 have nst:∀b o,X.s₀.heap.get? b=some o→b∉X.fs→b∉frs X.stack:=fun b o e n hb=>by
  rcases List.mem_cons.mp (I.stkSub b hb) with z|z
  ·exact absurd (Nat.lt_of_lt_of_le (Heap.lt_size e) I.ok.above) (by rw[z];exact Nat.lt_irrefl _)
  ·exact n z
 have noex:∀b:Addr,b∉X.ex:=fun b=>by rw[hex];simp
 have fsub:∀b∈X.fs,b∈frs X.stack:=fun b hb=>by
  rw[hst];unfold frs;rw[List.filterMap_cons,hfm];exact List.mem_cons_of_mem _ hb
 have fl':=fl
 rw[hst] at fl'
 refine wpAny_leaves_onW hfr hfm fl' fun h' f1 f2=>?_
 obtain⟨un,hok⟩:=F.turn f1.1 f2
 have xnew:X.s₀.heap.get? x=none:=by
  cases e:X.s₀.heap.get? x with
  |none=>rfl
  |some o=>
   obtain⟨o',e'⟩:=I.base.there x o e (noex x)
   rw[F.new] at e';cases e'
 refine q h' ⟨?_,F.bare,⟨fun b o e n hb _=>?_,fun b o e n hb _=>?_,fun b o e n _=>?_,fun b o e _=>?_,fun b xs e=>un.tups b xs (I.base.tups b xs e),fun b o u e=>un.frzs b o u (I.base.frzs b o u e),fun b ps e=>?_⟩,hok,⟨t,f1⟩,xnew,F.xf,fun b o hb e=>?_,fun b o e n hb=>?_,fun b o e hb=>?_,fun b hb=>F.ff b (fsub b hb)⟩
 ·exact F.os.trans I.os
 ·exact un.keep b o (I.base.keep b o e n hb (noex b)) (I.base.free b o e n (noex b)) (nst b o e hb) (by simp)
 ·obtain⟨sl,e1⟩:=I.base.slot b o e n hb (noex b)
  obtain⟨sl',e2⟩:=un.slot b _ e1 (I.base.free b o e n (noex b)) (fsub b hb) (by simp)
  exact⟨sl',e2⟩
 ·obtain⟨o',e1⟩:=I.base.there b o e (noex b)
  exact un.free b o' e1 (I.base.free b o e n (noex b)) (by simp)
 ·obtain⟨o',e1⟩:=I.base.there b o e (noex b)
  exact un.there b o' e1 (by simp)
 ·obtain⟨m1,e1⟩:=I.base.tbls b ps e
  obtain⟨m2,e2⟩:=un.tbls b _ e1
  exact⟨m1++m2,by rw[e2,Array.append_assoc]⟩
 ·cases e':H2 b with
  |none=>exact absurd e' hb
  |some u=>
   obtain⟨o1,e1⟩:=ObjOk.there (F.hok b u e')
   have e2:=F.tr b o1 hb e1
   have e3:=f1.1 b o1 e2
   have e4:h'.get? b=some o:=e
   rw[e4] at e3;cases e3
   exact e2
 ·exact F.ol b o (I.base.keep b o e n hb (noex b)) (I.base.free b o e n (noex b)) (nst b o e hb)
 ·obtain⟨o',e1⟩:=I.base.there b o e (noex b)
  exact F.th b o' e1 (nst b o e hb)
end
end L3
namespace L3
open PySem PySem.Spec PyProof.Rows L2 PySem.W PySem.Builtin PySem.Builtin.ObjectAttr PySem.Builtin.Getset_descriptor PySem.Calls
def XAt (x C:Addr):Heap→Prop:=fun h=>∃o,h.get? x=some o∧o.cls=.ref C
structure XCls (K:Frag) (C:Addr):Prop where
 ga:findIn K (.ref C) "__getattribute__"=some (some (.builtin "BaseException.__getattribute__"))
 gh:findIn K (.ref C) "__getattr__"=some none
 bs:mroIn K C (.type "BaseException")=some true
 cl:(clsIn K C).isSome=true
 ha:findIn K (.ref C) "__class__"=some (some (.builtin "object.__class__"))
 hn:specialIn K (.builtin "object.__class__") "__get__"=some (some (.builtin "getset_descriptor.__get__"))
 htk:takesIn K (.builtin "object.__class__")=some true
 hm:mroIn K C (.type "object")=some true
section
variable {prog:Program}{w:World}{A:Around}{E:Value→Shared→Prop}{s:Shared}{K:Frag}{x C:Addr}
theorem ϰX {M:Model}{h:Heap} (I:XAt x C h):Looks M h (typeOf (.ref x)) (.ref C):=by
 obtain⟨o,e,c⟩:=I
 exact c▸(Looks.ld e).andThen .now
theorem x_find {M:Model}{h:Heap} (X:K.In h) (c:XCls K C):Looks M h (find (.ref x) (.ref C) "__class__") (.bind (.builtin "getset_descriptor.__get__") (.builtin "object.__class__")):=by
 have l1:=looks_findIn (M:=M) X c.ha
 have l2:Looks M h (getOf (some (.builtin "object.__class__"))) (some (.builtin "getset_descriptor.__get__")):=looks_specialIn X c.hn
 have l3:=looks_takesIn (M:=M) X c.htk
 refine l1.andThen (l2.andThen ?_)
 exact(show Looks M h (dataDescriptor? (some (.builtin "object.__class__")) (some (.builtin "getset_descriptor.__get__"))) (some (.builtin "getset_descriptor.__get__",.builtin "object.__class__")) from l3.andThen .now).andThen (Looks.tag .now)
theorem x_get {R:Result→Shared→Prop}{tp:Value} (X:K.In s.heap) (I:XAt x C s.heap) (hm:mroIn K C (.type "object")=some true) (h:R (.ok (.ret (.ref C))) s) :
  codeAny (model prog w) A (.call (.builtin "getset_descriptor.__get__") ⟨[.builtin "object.__class__",.ref x,tp],[]⟩) R s:=by
 obtain⟨h0,g0,d0,t0,os0⟩:=s
 have l0:=ϰX (M:=model prog w) I
 have l1:=looks_mroIn (M:=model prog w) X hm
 refine codeAny_call_builtin KF.slot_gs.plain KF.entry_gs (KF.slot_gs.check _ _ _ _ _ _ _ _ KF.type_class (KF.args_gs _ _ _) ?_)
 unfold Builtin.«getset_descriptor.__get__» descrGet
 rw[dga_obj]
 refine wpAny_bind (wpAny_pure ?_)
 unfold descrGetter descrCheckInstance descrNameAndClass isInstance
 simp only[KF.owner_class]
 repeat lk
 refine⟨Code.quiet_builtin _ (by decide +kernel),codeAny_builtin KF.entry_class ?_⟩
 unfold Builtin.«object.__class__» shownTypeOf
 repeat lk
 exact h
theorem ϲw (v:Value):bindSpecial (.builtin "BaseException.__getattribute__") v=pure (.builtin "BaseException.__getattribute__",[v]):=by kernel_rfl
theorem ϲ8 {tk:Tok}{R:Result→Shared→Prop} (X:K.In s.heap) (I:XAt x C s.heap) (c:XCls K C) (h:R (.ok (.ret (.ref C))) s) :
  codeAny (model prog w) A (.call (.builtin "BaseException.__getattribute__") ⟨[.ref x,.str "__class__" tk],[]⟩) R s:=by
 obtain⟨h0,g0,d0,t0,os0⟩:=s
 have l0:=ϰX (M:=model prog w) I
 have l1:=x_find (M:=model prog w) (x:=x) X c
 have l2:=looks_mroIn (M:=model prog w) X c.bs
 have hk:builtinKind "BaseException.__getattribute__"=some .slot:=by decide +kernel
 have hsp:splitId "BaseException.__getattribute__"=some ("BaseException","__getattribute__"):=by decide +kernel
 have ha:=F.args_bexc_ga (.ref x) (.str "__class__" tk)
 refine codeAny_call_builtin (by decide +kernel) F.entry_bexc_ga ?_
 simp only[checkBuiltinCall,hk,hsp]
 unfold isInstance
 repeat (first|refine wpAny_run (h:=none) (x_get (A:=A.in1) (s:=⟨h0,g0,d0,t0,os0⟩) X I c.hm ?_)|lk)
 exact h
theorem ϲR {Q:Option Value→Shared→Prop} (X:K.In s.heap) (I:XAt x C s.heap) (c:XCls K C) (h:Q (some (.ref C)) { s with toks:=s.toks+1 }):wpAny (model prog w) A (getAttr? (.ref x) "__class__") Q E s:=by
 obtain⟨h0,g0,d0,t0,os0⟩:=s
 have l0:=ϰX (M:=model prog w) I
 have l1:=looks_findIn (M:=model prog w) X c.ga
 have l2:=looks_findIn (M:=model prog w) X c.gh
 unfold getAttr? getAttrBy? getAttrBy
 refine wpAny_bind (wpAny_mkText (wpAny_bind (wpAny_attempt (wpAny_holding (wpAny_bind (l0.at (wpAny_bind (l1.at ?_))))))))
 show wpAny _ _ (getAttrByItsOwn _ _ _ _ _ _) _ _ _
 unfold getAttrByItsOwn hookBefore
 refine wpAny_bind (l2.at ?_)
 show wpAny _ _ (((holding [] (boundAndCalled _ _ _)).attempt) >>= _) _ _ _
 unfold boundAndCalled
 rw[ϲw]
 refine wpAny_bind (wpAny_attempt (wpAny_holding (wpAny_bind (wpAny_pure ?_))))
 exact wpAny_call (ϲ8 (s:=⟨h0,g0,d0,t0+1,os0⟩) X I c (wpAny_pure (wpAny_pure h)))
theorem ϵ7 (c:XCls K C):KitX K (.ref x) (.ref C) (XAt x C) where
 ty:=fun _ _ _ I=>ϰX I
 it:=fun _ _ X _=>by
  obtain⟨cd,hc⟩:=Option.isSome_iff_exists.mp c.cl
  unfold clsIn at hc
  split at hc
  ·rename_i ho
   intro A' Q' E' s' k q
   unfold isType loadHead
   exact wpAny_bind (wpAny_loadPart (k _ _ (X _ _ ho)) (wpAny_pure q))
  ·cases hc
 ne:=fun h tp dd its n sl X htp=>by
  obtain⟨cd,hc⟩:=Option.isSome_iff_exists.mp c.cl
  refine Bool.eq_false_iff.mpr fun q=>?_
  obtain rfl:C=tp:=Value.ref.inj (beq_iff_eq.mp q)
  unfold clsIn at hc
  split at hc
  ·rename_i ho
   cases (X _ _ ho).symm.trans htp
  ·cases hc
 ca:=fun X I k=>ϲR X I c k
theorem ϱ6 {S:Addr}{Q:Bool→Shared→Prop} (X:K.In s.heap) (I:XAt x C s.heap) (ht:typeIn K (.ref S)=some (.type "type")) (hcS:(clsIn K S).isSome=true) (hb:mroIn K S (.type "BaseException")=some true) (hs:mroIn K C (.ref S)=some true) (q:Q true s) :
  wpAny (model prog w) A (excMatches (.ref x) (.ref S)) Q E s:=by
 obtain⟨h0,g0,d0,t0,os0⟩:=s
 have l0:=ϰX (M:=model prog w) I
 have l1:=looks_typeIn (M:=model prog w) X ht
 have l2:=looks_mroIn (M:=model prog w) X hb
 have l3:=looks_mroIn (M:=model prog w) X hs
 have l4:Looks (model prog w) h0 (isType (.ref S)) true:=by
  obtain⟨cd,hc⟩:=Option.isSome_iff_exists.mp hcS
  unfold clsIn at hc
  split at hc
  ·rename_i ho
   intro A' Q' E' s' k q
   unfold isType loadHead
   exact wpAny_bind (wpAny_loadPart (k _ _ (X _ _ ho)) (wpAny_pure q))
  ·cases hc
 have l5:Looks (model prog w) h0 (isSubtype (.type "type") (.type "tuple")) false:=Looks.of_pure (by rw[isSubtype_type];kernel_rfl)
 unfold excMatches isInstance isExcClass
 repeat lk
 exact q
end
end L3
namespace L3
open PySem PySem.Spec PyProof.Rows L2
abbrev bmV:List Value:=[.type "ValueError",.type "Exception",.type "BaseException",.type "object"]
theorem ϲ7 {K:PySem.W.Frag}{h:Heap}{C:Addr}{bB:List Value}{nid:String} (X:K.In h) (e:PySem.W.excIn K C bB nid=true) :
  ∃bm N nm q bs hd sn sub ab col dd k0 k1 k2 k3 k5 mN,h.get? C=some (excClassObj nm q C N bs bm hd sn sub ab col dd k0 k1 k2 k3 k5 nid)∧h.Ns N mN∧mN "__init__"=none∧OwnTail h bB bm:=by
 unfold PySem.W.excIn at e
 split at e
 ·rename_i dd cd slots hl
  split at e
  ·rename_i C1 bm k0 k1 k2 k3 n1 k5 hmro hslots
   simp only[Bool.and_eq_true,beq_iff_eq,Bool.not_eq_true'] at e
   obtain⟨⟨⟨⟨⟨e1,e2⟩,e3⟩,e4⟩,e5⟩,e6⟩:=e
   subst e1 e2
   obtain⟨a1,a2,a3,a4,a5,a6,a7,a8,a9,a10,a11⟩:=cd
   dsimp only at hmro e3 e5 e6
   subst hmro e3
   have es:slots=#[k0,k1,k2,k3,some (.builtin n1),k5]:=by
    obtain⟨l⟩:=slots
    simp only at hslots
    rw[hslots]
   subst es
   exact⟨bm,a4,a1,a5,a2,a6,a7,a8,a9,a10,dd,k0,k1,k2,k3,k5,_,X _ _ hl,.of_isNs (PySem.W.isNs_of_in X e5),PySem.W.nsMap_none_of_in X e5 e6,PySem.W.tail_of_in X e4⟩
  ·cases e
 ·cases e
structure OwnX (K:PySem.W.Frag) (mg:Str→Option Value) (x:Str) (C:Addr):Prop where
 nm:mg x=some (.ref C)
 ex:PySem.W.excIn K C bmV "ValueError.__new__"=true
section
variable {X:Cx}
def ϲi (X:Cx) (E:XK):Prop:=∀(pins:List (Addr×Obj)) (σ:L2.St) (H:Hp) (s:Shared) (h2:Heap) (x C:Addr) (vs:List Value),Inv X pins σ H s→Heap.MadeExcOf s.heap h2 x (.ref C) vs→E (.ref C) none H→X.xe (.ref x) { s with heap:=h2 }
def tRaise (C:Addr) (E:XK) (te:TE):TS:=fun _ σ H=>te σ H fun v H1=>[v].length=1∧E (.ref C) none H1
theorem ϵ4 {x:Str}{C:Addr}{E:XK}{e:Expr}{te:TE}{np cpos pos:Pos} (O:OwnX X.K X.mg x C) (hc:X.calm=true) (hg:Gl X x) (hR:ϲi X E) (he:PE X e te) (hd:(x == ("__debug__":Str))=false:=by decide)
  (hs:starEach [e] X.env=[(false,eval e X.env)]:=by rfl) (hpl:(backTo cpos (starEach [e] X.env)).any (·.1)=false:=by rfl):PS X (.Raise (some (.Call (.Name x np) [e] [] cpos)) none pos) (tRaise C E te):=by
 intro pins s σ H D I h
 obtain⟨bm,N,nm,q,bs,hdct,sn,sub,ab,col,dd,k0,k1,k2,k3,k5,mN,hC,hN,hni,T⟩:=ϲ7 (h:=X.base) I.ok.mod.kin O.ex
 have FV:=PySem.F.excBase_ValueError
 refine wpAny_Raise_call_subU (C:=C) (nm:=nm) (q:=q) (N:=N) (bs:=bs) (bm:=bm) (hdct:=hdct) (sn:=sn) (sub:=sub) (ab:=ab) (col:=col) (dd:=dd) (k0:=k0) (k1:=k1) (k2:=k2) (k3:=k3) (k5:=k5) (mN:=mN)
  FV (by decide) FV (T.hasType FV.hasBase) (I.ok.hd hc) hpl hni (ϕT I hg O.nm ⟨rfl,?_⟩ hd)
 have pa:PA X [e] (tCons te tNil):=ϖa he ϖk hs
 rw[hs]
 refine Calls.evalArgs_plain ?_
 have run:=pa cpos pins s σ H (fun ws H1=>ws.length=1∧E (.ref C) none H1) I h
 rw[hs] at run
 refine wpAny_mono run (fun vs s2 ⟨ws,H2,I2,rv,hw,hE⟩=>?_) fun _ _ y=>y
 have hl:vs.length≤sizeLine:=by
  rw[← rv.length,hw];decide
 exact⟨rfl,hl,I2.bk _ _ hC,hN.keeps I2.bk,T.keeps I2.bk,fun h' x0 hm=>hR pins σ H2 s2 h' x0 C vs I2 hm hE⟩
def Cal1 (P:Program) (w:World) (K:PySem.W.Frag) (mg:Str→Option Value) (base:Heap) (x:Str) (ps:List Str) (k:Nat) (sp:Sp):Prop:=
 ∃f fd,FnOk P w K mg base (CX1 P w) k f fd ps sp∧Binds K fd ps []∧PySem.W.keepIn K (.ref f)=true∧mg x=some (.ref f)
def tFn1 (sp:Sp) (E:XK) (t:TA):TE:=fun σ H Q=>t σ H fun vs H1=>sp vs H1 Q E
theorem pe_fn1 {x:Str}{ps:List Str}{k k':Nat}{sp:Sp}{E:XK}{p pos:Pos}{e:Expr}{es:List Expr}{t:TA} (C:Cal1 X.prog X.w X.K X.mg X.base x ps k sp) (hr:Room k' X.A) (hk:k≤k') (hg:Gl X x) (hx:ϱC (CX1 X.prog X.w) X E)
  (ha:PA X (e::es) t) (hdb:(x == ("__debug__":Str))=false:=by decide) (he:starEach (e::es) X.env=(false,eval e X.env)::starEach es X.env:=by rfl) (hpl:(backTo pos (starEach es X.env)).any (·.1)=false:=by rfl) :
  PE X (.Call (.Name x p) (e::es) [] pos) (tFn1 sp E t):=by
 obtain⟨f,fd,F,b,kp,hm⟩:=C
 intro pins s σ H Q I h
 refine wpAny_Call_Name_kw (ϕT I hg hm ?_ hdb)
 refine PySem.W.callWith_K (h₀:=X.base) I.ok.mod.kin kp (thn (ha pos pins s σ H _ I h) fun us s1 ⟨vs,H1,I1,r,q⟩=>⟨I1.kIn,?_⟩) he hpl
 exact ϲb (dvs:=[]) F (hr.mono hk) b .nil hx I1 r (by rw[List.append_nil];exact q)
end
section
variable {P:Program}{w:World}{K:PySem.W.Frag}{mg:Str→Option Value}{base:Heap}{N:List Str}{qual:Str}{scope:Scope}{f:Addr}{cd:Value}{A:Around}{outer:List Env}{s:Shared}{H:Hp}{E:XK}
theorem ϲZ:ϱC (CX1 P w) (cxOf (CX1 P w) P w K mg base N qual scope f cd A outer s H E) E:=by
 intro pins σ H1 s1 e s2 I h
 obtain⟨x,C,H2,B,rfl,F,hE⟩:=h
 show wpAny (model P w) _ (leaving _ (.ref x)) _ _ s2
 exact ϵQ I rfl rfl rfl F fun h' F'=>⟨x,C,H2,B,rfl,F',hE⟩
theorem ϵS:ϲi (cxOf (CX1 P w) P w K mg base N qual scope f cd A outer s H E) E:=by
 intro pins σ H1 s1 h2 x C vs I hm hE
 show wpAny (model P w) _ (leaving _ (.ref x)) _ _ _
 exact ϵE I rfl rfl rfl hm fun h' B F'=>⟨x,C,H1,B,rfl,F',hE⟩
theorem Fun.ok1 {x:Str}{st:Stmt}{fd:FuncData}{ps:List Str}{k:Nat}{sp:Sp} (F:Fun K x qual st f fd) (S:FnScope N ps (ϖm st)) (len:∀vs H Q E,sp vs H Q E→vs.length=ps.length)
  (hbody:∀(cdv:Value) (A:Around) (outer:List Env) (s:Shared) (H:Hp) (vs:List V) (Q:VK) (E:XK),Room k (A.deeper (envOfC qual (ϖm st) s.heap.objs.size f cdv))→sp vs H Q E →
   ∃t,PSs (cxOf (CX1 P w) P w K mg base N qual (ϖm st) f cdv A outer s H E) (ϖB st) t∧t { nx:=fun _ H'=>Q .non H',rt:=Q } (start N vs) H):FnOk P w K mg base (CX1 P w) (k+1) f fd ps sp:=by
 obtain⟨oc,od,kV,doc,pm,an,cdv,ct,osl,rfl,lk,hcd⟩:=F.ex
 exact fn_of lk hcd S len fun A outer s H vs Q E hr hsp=>hbody cdv A outer s H vs Q E hr hsp
end
def excIs (x C:Addr):Heap→Prop:=XAt x C
abbrev Exc (x C:Addr):HO:=.ext (excIs x C)
theorem exc_ok {P:Program}{w:World}{H:Hp}{h:Heap}{x C:Addr} (e:XAt x C h):ObjOk P w H h x (Exc x C):=
 ⟨e,let ⟨o,z,_⟩:=e;⟨o,z⟩,fun h1 h2 ⟨o,z,c⟩ k=>⟨o,k o z,c⟩⟩
section
variable {X:Cx}
def clsV:V→Option Value
 |.ref a=>some (.ref a)
 |.ty T=>some (.type T)
 |_=>none
theorem ϖU:ϕ_ X (.builtin "isinstance") (fun xs H Q=>∃x C y u b,xs=[.ref x,y]∧H x=some (Exc x C)∧XCls X.K C∧clsV y=some u∧PySem.W.kitOne X.K (.ref C) u=some b∧Q (.bl b) H):=by
 intro pins s σ H xs us Q I r h
 obtain⟨x,C,y,u,b,rfl,hx,c,hu,e,q⟩:=h
 obtain⟨v,w',rfl,rx,ry⟩:=ϵy r
 cases rx
 have ew:w'=u:=by
  cases y<;>simp only[clsV] at hu<;>first|cases hu|skip
  ·cases ry;rfl
  ·cases ry;rfl
 subst ew
 have px:XAt x C s.heap:=(show ObjOk X.prog X.w H s.heap x (Exc x C) from I.hok x _ hx).1
 exact PySem.W.kia_one (ϵ7 c) I.kIn px e (fun z=>nomatch z) fun tk=>⟨.bl b,H,I.tok _,rfl,q⟩
theorem ϑN {x:Str}{C:Addr}{pos:Pos} (hg:Gl X x) (hm:X.mg x=some (.ref C)) (hd:(x == ("__debug__":Str))=false:=by decide):PE X (.Name x pos) (tC (.ref C)):=ϵL hg hm rfl hd
end
end L3
namespace L3
open PySem PySem.Spec PyProof.Rows L2
abbrev sui (X:Cx) (v:Value):Cx:={ X with A:=X.A.mark (some v),calm:=false,xe:=fun _ _=>False }
section
variable {X:Cx}{pins:List (Addr×Obj)}{σ:L2.St}{H:Hp}{s:Shared}
theorem Inv.suite (I:Inv X pins σ H s) (v:Value):Inv (sui X v) pins σ H s:=
 ⟨⟨I.ok.mod,I.ok.kind,I.ok.glob,I.ok.blt,I.ok.above,I.ok.inj,I.ok.has,I.ok.cab,(fun h=>nomatch h),I.ok.frames,I.ok.stk,I.ok.exf,I.ok.bs,I.ok.bsz,I.ok.noex,I.ok.exfs,I.ok.funs,I.ok.frf⟩,I.os,I.bare,I.base,I.loc,I.cell,I.free,I.freeC,I.pin,I.hok,I.len⟩
theorem Inv.unsuite {v:Value} (ok:X.Ok) (I:Inv (sui X v) pins σ H s):Inv X pins σ H s:=
 ⟨ok,I.os,I.bare,I.base,I.loc,I.cell,I.free,I.freeC,I.pin,I.hok,I.len⟩
theorem Inv.trackX {x C:Addr} (I:Inv X pins σ H s) (hx:H x=none) (c:XAt x C s.heap) (h0:X.s₀.heap.get? x=none) (h1:x≠X.env.locals) (h2:∀y a,X.env.cells.lookup y=some a→a≠x) (h3:∀p∈X.pn++pins,p.1≠x):Inv X pins σ (upd H x (Exc x C)) s:=by
 have old:∀b u,H b=some u→upd H x (Exc x C) b=some u:=fun b u e=>by rw[ϖs (ϖw e hx)];exact e
 refine⟨I.ok,I.os,I.bare,⟨I.base.keep,I.base.slot,fun b o e n hb=>?_,I.base.there,fun b xs e=>old b _ (I.base.tups b xs e),fun b o u e=>old b _ (I.base.frzs b o u e),fun b ps e=>?_⟩,I.loc,I.cell,by rw[ϖs h1.symm];exact I.free,fun y a e=>by rw[ϖs (h2 y a e)];exact I.freeC y a e,fun p hp=>?_,fun b u e=>?_,I.len⟩
 ·rw[ϖs (fun z=>by subst z;rw[h0] at e;cases e)]
  exact I.base.free b o e n hb
 ·obtain⟨m,e1⟩:=I.base.tbls b ps e
  exact⟨m,old b _ e1⟩
 ·obtain⟨a1,a2,a3⟩:=I.pin p hp
  exact⟨a1,by rw[ϖs (h3 p hp)];exact a2,a3⟩
 ·by_cases hb:b=x
  ·subst hb
   rw[ϖd] at e;cases e
   exact exc_ok c
  ·rw[ϖs hb] at e
   exact(I.hok b u e).stay (fun _ _ _ q=>q) (fun a q=>old a _ q) fun a xs q=>old a _ q
theorem ϲN {M:Model}{A:Around}{E:Value→Shared→Prop}{i:Nat}{n:Str}{pos:Pos}{Q:Unit→Shared→Prop} (I:Inv X pins σ H s) (hN:X.N.Nodup) (hi:X.N[i]?=some n) (hk:X.env.scope.names.lookup n=some .local)
  (h:∀s',Inv X pins (σ.set i none) H s'→Q () s'):wpAny M A (do bindName X.env n .none;unbindBehindTheSuite X.env n pos) Q E s:=by
 obtain⟨m,hn,hl⟩:=id I.loc
 have hcls:(X.env.scope.kind == .class || (X.env.scope.kind == .module && X.env.locals != X.env.globals))=false:=by rw[I.ok.kind];rfl
 have hiσ:i < σ.length:=by rw[I.len];exact(List.getElem?_eq_some_iff.mp hi).1
 have cne:=I.cne
 obtain⟨oL,_,_,hoL,_⟩:=id hn
 refine wpAny_nameGoes_keeps hk hn hcls fun h' v hn' hs=>h _ ?_
 have bel:∀{b:Addr}{o:Obj},X.s₀.heap.get? b=some o→b≠X.env.locals:=fun e=>Nat.ne_of_lt (Nat.lt_of_lt_of_le (Heap.lt_size e) I.ok.above)
 refine⟨I.ok,I.os,I.bare,⟨fun b o e n hb hx=>(hs.2 b (bel e)).trans (I.base.keep b o e n hb hx),fun b o e n hb hx=>?_,I.base.free,fun b o e hx=>?_,I.base.tups,I.base.frzs,I.base.tbls⟩,⟨_,hn',fun j y v' e1 e2 e3=>?_⟩,fun y c e=>?_,I.free,I.freeC,fun p hp=>?_,fun b ob e=>?_,by simpa using I.len⟩
 ·obtain⟨sl,e1⟩:=I.base.slot b o e n hb hx
  exact⟨sl,(hs.2 b (bel e)).trans e1⟩
 ·obtain⟨o',e1⟩:=I.base.there b o e hx
  exact⟨o',(hs.2 b (bel e)).trans e1⟩
 ·by_cases hj:j=i
  ·subst hj
   rw[List.getElem?_set_self hiσ] at e2
   cases e2
  ·rw[List.getElem?_set_ne (Ne.symm hj)] at e2
   obtain⟨u',r',q⟩:=hl j y v' e1 e2 e3
   refine⟨u',r',?_⟩
   rcases q with⟨k,e⟩|⟨k,c,e,z⟩
   ·refine .inl ⟨k,?_⟩
    have:y≠n:=fun e=>hj (ϰC hN e1 (e▸hi))
    simp[this,e]
   ·exact .inr ⟨k,c,e,z.sameBut hs (cne y c e)⟩
 ·obtain⟨w',z⟩:=I.cell y c e
  exact⟨w',z.sameBut hs (cne y c e)⟩
 ·obtain⟨e,n,ne,nf,d⟩:=I.pin p hp
  exact⟨(hs.2 p.1 ne).trans e,n,ne,nf,d⟩
 ·refine(I.hok b ob e).stay (fun c w' hc q=>(hs.2 c ?_).trans q) (fun _ q=>q) fun _ _ q=>q
  rintro rfl
  rcases hc with rfl|hc
  ·rw[I.free] at e;cases e
  ·rw[I.free] at hc;cases hc
structure Clause (K:PySem.W.Frag) (mg:Str→Option Value) (x:Str) (S:Addr):Prop where
 nm:mg x=some (.ref S)
 ty:PySem.W.typeIn K (.ref S)=some (.type "type")
 cl:(PySem.W.clsIn K S).isSome=true
 bs:PySem.W.mroIn K S (.type "BaseException")=some true
end
end L3
namespace L3
open PySem PySem.Spec PyProof.Rows L2
section
variable {X:Cx}{pins:List (Addr×Obj)}{σ:L2.St}{H:Hp}{s:Shared}
def tTryE (K:PySem.W.Frag) (S:Addr) (iz ie:Nat) (sp:Sp) (t:TA):TS:=fun D σ H=>t σ H fun vs H1=>sp vs H1 (fun _ H2=>D.nx σ H2)
 fun c _ H2=>∃C,c=.ref C∧PySem.W.mroIn K C (.ref S)=some true∧∀x,H2 x=none→D.nx (((σ.set ie (some (.ref x))).set iz (some (.ref x))).set ie none) (upd H2 x (Exc x C))
theorem ϲn {x z n S:Str}{SA:Addr}{iz ie:Nat}{ps:List Str}{k k':Nat}{sp:Sp}{fp cp ap spp np zp zap hp pos:Pos}{e:Expr}{es:List Expr}{t:TA} (hxe:X.xe=fun _ _=>False) (C:Cal1 X.prog X.w X.K X.mg X.base x ps k sp) (hr:Room k' X.A) (hk:k≤k') (hg:Gl X x)
  (ha:PA X (e::es) t) (cl:Clause X.K X.mg S SA) (hgS:Gl X S) (hst:X.stack=X.env::X.outer) (hfm:X.env.frame=some X.env.locals) (hex:X.ex=[]) (hN:X.N.Nodup) (hz:X.N[iz]?=some z) (hn:X.N[ie]?=some n)
  (lz:Loc X.env.scope z) (ln:X.env.scope.names.lookup n=some .local) (hie:ie≠iz)
  (fz:X.fn z=true∨X.env.scope.names.lookup z=some .local:=by first|exact .inl rfl|exact .inr rfl|assumption)
  (hdb:(x == ("__debug__":Str))=false:=by decide) (hdS:(S == ("__debug__":Str))=false:=by decide) (hdn:(n == ("__debug__":Str))=false:=by decide) (hcn:(n == ("__classdict__":Str))=false:=by decide)
  (he:starEach (e::es) X.env=(false,eval e X.env)::starEach es X.env:=by rfl) (hpl:(backTo cp (starEach es X.env)).any (·.1)=false:=by rfl)
  (hsw:swapsWith (.Call (.Name x fp) (e::es) [] cp) none ap.line X.env=pure false:=by rfl) (hsz:swapsWith (.Name n np) (some (.Name z zp)) zap.line X.env=pure false:=by rfl) :
  PS X (.Try [.Expr (.Call (.Name x fp) (e::es) [] cp) ap] [.ExceptHandler (some (.Name S spp)) (some n) [.Assign [.Name z zp] (.Name n np) zap] hp] [] [] pos) (tTryE X.K SA iz ie sp t):=by
 intro pins s σ H D I h
 obtain⟨f,fd,F,b,kp,hm⟩:=C
 refine wpAny_Try_except (wpAny_execs_cons (wpAny_Expr_any ?_ I.quiet hsw))
 refine wpAny_Call_Name_kw (ϕT I hg hm ?_ hdb)
 have run:=ha cp pins s σ H _ I h
 rw[hxe] at run
 refine PySem.W.callWith_K (h₀:=X.base) I.ok.mod.kin kp (toE (thn run fun us s1 ⟨vs,H1,I1,r,q⟩=>⟨I1.kIn,?_⟩)) he hpl
 have hl:us.length=ps.length:=by rw[← r.length];exact F.len _ _ _ _ q
 refine wpAny_call (codeAny_mono (F.run X.A X.stack s1 H1 ⟨us,[]⟩ (us++[]) vs _ _ (hr.mono hk) I1.env0 (b s1 us I1.kIn (by rw[List.append_nil];exact hl)) (by rw[List.append_nil];exact r) q) fun r' s2 hq=>?_)
 cases r' with
 |ok fl=>
  cases fl with
  |ret u=>
   obtain⟨v,H2,I2,rv,hv⟩:=I1.after hq
   exact wpAny_execs_nil (wpAny_execs_nil ⟨_,H2,I2,hv⟩)
  |next=>exact False.elim hq
  |brk=>exact False.elim hq
  |cont=>exact False.elim hq
 |error ev=>
  obtain⟨xa,C,H2,B,rfl,Fl,C',hC,hsub,hE⟩:=hq
  cases hC
  obtain⟨ta,fl⟩:=Fl.fl
  have hfr:X.A.frames=some (X.env::X.outer):=by rw[← hst];exact I.ok.frames
  have fl':=fl
  rw[hst] at fl'
  have hxl:xa≠X.env.locals:=fun z=>by
   obtain⟨m,⟨o,es',ep,e',_⟩,_⟩:=I1.loc
   rw[← z,Fl.new] at e';cases e'
  have hxc:∀y a,X.env.cells.lookup y=some a→a≠xa:=fun y a e' z=>by
   obtain⟨v,o,ho,_⟩:=I1.cell y a e'
   rw[z,Fl.new] at ho;cases ho
  have hxp:∀p∈X.pn++pins,p.1≠xa:=fun p hp z=>by
   have:=(I1.pin p hp).1
   rw[z,Fl.new] at this;cases this
  have inv_at:∀(h':Heap),B.StaysIn h'→s2.heap.UpToSlots h'→Inv X pins σ H2 { s2 with heap:=h' }:=fun h' k1 k2=>by
   obtain⟨un,hok⟩:=Fl.turn k1 k2
   exact I1.call' (s':={ s2 with heap:=h' }) Fl.os un hok Fl.bare (fun b z=>absurd z (by simp))
  refine wpAny_looks_onW hfr hfm fl' fun h4 held4 up4=>?_
  refine wpAny_landsW held4 fun h5 fl5 up5=>?_
  have up45:=up4.trans up5
  have I5:=inv_at h5 fl5.1 up45
  have c5:XAt xa C h5:=by obtain⟨o,e1,e2⟩:=fl5.there;exact⟨o,e1,e2⟩
  refine wpAny_handleBy_cons (codeAny_handlers_test (ϕT (X:=sui X (.ref xa)) (Inv.suite I5 _) hgS cl.nm ?_ hdS)) (by intro q;cases q)
  refine ϱ6 I5.kIn c5 cl.ty cl.cl cl.bs hsub ?_
  refine codeAny_handlers_suite_as (lands_againW fl5 fun h6 fl6 up6=>?_)
  have I6:=inv_at h6 fl6.1 (up45.trans up6)
  have c6:XAt xa C h6:=by obtain⟨o,e1,e2⟩:=fl6.there;exact⟨o,e1,e2⟩
  have x0:X.s₀.heap.get? xa=none:=by
   cases e':X.s₀.heap.get? xa with
   |none=>rfl
   |some o=>
    obtain⟨o',e1⟩:=I1.base.there xa o e' (by rw[hex];simp)
    rw[Fl.new] at e1;cases e1
  have I7:=Inv.trackX I6 Fl.xf c6 x0 hxl hxc hxp
  refine ϰv (X:=sui X (.ref xa)) (Inv.suite I7 _) hN hn (.inl ln) (v:=.ref xa) rfl (fun s8 I8=>?_) (.inr ln)
  have suite:PSs (sui X (.ref xa)) [.Assign [.Name z zp] (.Name n np) zap] (tAsg (tVar ie) (ϵV iz)):=ϖq (ϖx hN hz lz (ϲl hn (.inl ln) hdn hcn) hsz fz)
  have hiσ:ie < σ.length:=by rw[I.len];exact(List.getElem?_eq_some_iff.mp hn).1
  have go:=suite pins s8 _ _ { nx:=fun σ' H'=>σ'=(σ.set ie (some (.ref xa))).set iz (some (.ref xa))∧H'=upd H2 xa (Exc xa C),rt:=fun _ _=>False } I8 ⟨_,List.getElem?_set_self hiσ,rfl,rfl⟩
  refine toE (wpAny_mono go (fun f s9 hf=>?_) fun _ _ z=>z)
  cases f with
  |next=>
   obtain⟨σ9,H9,I9,rfl,rfl⟩:=hf
   exact ϲN (Inv.unsuite I.ok I9) hN hn ln fun s10 I10=>⟨_,_,I10,hE xa Fl.xf⟩
  |ret u=>obtain⟨_,_,_,_,_,z⟩:=hf;exact z.elim
  |brk=>obtain⟨_,_,_,z⟩:=hf;exact z.elim
  |cont=>obtain⟨_,_,_,z⟩:=hf;exact z.elim
end
end L3
namespace L3
open PySem PySem.Spec PyProof.Rows L2 PySem.W
section
variable {X:Cx}
end
end L3
namespace L3
open PySem PySem.Spec PyProof.Rows L2 PySem.W
section
variable {X:Cx}
end
end L3
namespace L3
open PySem PySem.Spec PyProof.Rows L2
end L3
namespace L3
open PySem PySem.Spec PyProof.Rows L2
theorem ϲO {X:Cx}{e:Expr}{t1 t2:TE} (h1:PE X e t1) (h2:PE X e t2):PE X e (fun σ H Q=>t1 σ H Q∨t2 σ H Q):=fun pins s σ H Q I h=>h.elim (h1 pins s σ H Q I) (h2 pins s σ H Q I)
end L3
namespace L3
open PySem PySem.Spec PyProof.Rows L2 PySem.W
section
variable {prog:Program}{w:World}{A:Around}{E:Value→Shared→Prop}{s:Shared}{x C:Addr}{K:Frag}
end
section
variable {X:Cx}
end
end L3
namespace L3
open PySem PySem.Spec PyProof.Rows L2 PySem.W
section
variable {X:Cx}
end
end L3
namespace L3
open PySem PySem.Spec PyProof.Rows L2
section
variable {prog:Program}{w:World}{κ:Type} [DecidableEq κ] {knd:HeapKind prog w κ}{A:Around}{E:Value→Shared→Prop}{s:Shared}
theorem ϲ4 {d a:Addr}{xs:List (κ×Addr×Value)}{k:κ}{v:Value}{Q:Value→Shared→Prop} (hu:knd.room A) (hkey:knd.is s.heap k a) (hm:s.heap.DictOfH knd d xs) (hsz:xs.length≤sizeLine)
  (h1:∀p,atKey xs k=some p→Q p.2 { s with toks:=s.toks+knd.draws k })
  (h2:atKey xs k=none→∀h',h'.DictOfH knd d (storedH xs k a v)→Heap.SameBut d s.heap h'→Q v { s with heap:=h',toks:=s.toks+knd.draws k }) :
  wpAny (model prog w) A (dictSetDefault d (.ref a) v) Q E s:=by
 obtain⟨o,es,ep,ho,hc,hd,he,his,hn⟩:=hm
 unfold dictSetDefault
 try with_reducible refine wpAny_holding ?_
 refine wpAny_bind (knd.pyHash hu hkey (wpAny_bind (wpAny_dictFind_heap (s:={ s with toks:=s.toks+knd.draws k }) hu hkey ho hd he his hn ?_ ?_)))
 ·intro hno
  have hnot:k∉xs.map (·.1):=not_mem_keys_of_get hno
  have hsn:=storedH_new (a:=a) (v:=v) (atKey_none_of_get hno)
  refine wpAny_bind (wpAny_rule (wpAny_bind (wpAny_updateDictKeys (hz:=by have e:=size_of_entries he;omega) (s:={ s with toks:=s.toks+knd.draws k }) ho hd (wpAny_pure
   (h2 (atKey_none_of_get hno) _ ⟨_,_,ep+1,Heap.get?_update_self _ ho (Obj.isFreed_of_dict (Obj.data_mapDictKeys hd _)),hc.mapDictKeys _,Obj.data_mapDictKeys hd _,?_,?_,?_⟩ (Heap.SameBut.update ..))))))
  ·rw[hsn];simp[he,entryOfKey]
  ·rw[hsn]
   intro x hx
   rcases List.mem_append.mp hx with hx|hx
   ·exact knd.keeps (his x hx) ho hd (Heap.SameBut.update ..)
   ·cases List.mem_singleton.mp hx
    exact knd.keeps hkey ho hd (Heap.SameBut.update ..)
  ·rw[hsn,List.map_append,List.nodup_append]
   refine⟨hn,by simp,fun x hx y hy=>?_⟩
   cases List.mem_singleton.mp hy
   exact fun e=>hnot ((show x=k from e)▸hx)
 ·intro j p hj
  refine wpAny_bind (wpAny_dictEntries (s:={ s with toks:=s.toks+knd.draws k }) ho hd ?_)
  rw[entry_at he j,hj]
  exact wpAny_bind (wpAny_rule (wpAny_pure (h1 _ (atKey_of_get hn hj))))
theorem ϵ2 {d a:Addr} (hd:(d == sysModules)=false) (dflt:Value) :
  MeetsIn prog w (Builtin.«dict.setdefault» ⟨[.ref d,.ref a,dflt],[]⟩) (fun A R s=>knd.room A.in1∧∃k xs,knd.is s.heap k a∧s.heap.DictOfH knd d xs∧xs.length≤sizeLine ∧
   (∀ p,atKey xs k=some p→R (.ok (.ret p.2)) { s with toks:=s.toks+knd.draws k }) ∧
   (atKey xs k=none→∀h',h'.DictOfH knd d (storedH xs k a dflt)→Heap.SameBut d s.heap h'→R (.ok (.ret dflt)) { s with heap:=h',toks:=s.toks+knd.draws k })):=
 .of_wp fun A R s ⟨hu,k,xs,hkey,hm,hz,h1,h2⟩=>by
  unfold Builtin.«dict.setdefault»
  refine wpAny_bind ?_
  unfold Builtin.Dict.keyAndDefault
  refine wpAny_bind (wpAny_notOrdered_dict hm.typeIs ?_)
  show wpAny _ _ (pure (d,Value.ref a,some dflt)) _ _ s
  refine wpAny_pure ?_
  show wpAny _ _ (if (d == sysModules)=true then _ else (dictSetDefault d (.ref a) dflt >>= _)) _ _ s
  rw[if_neg (by rw[hd];exact Bool.false_ne_true)]
  exact wpAny_bind (ϲ4 hu hkey hm hz (fun p hp=>wpAny_pure ⟨_,rfl,h1 p hp⟩) fun hn h' hm' hs'=>wpAny_pure ⟨_,rfl,h2 hn h' hm' hs'⟩)
end
section
variable {X:Cx}
def rSetD:V→List V→Hp→VK→Prop:=fun x vs H Q=>∃a y z,x=.ref a∧vs=[y,z] ∧
 ((∃ kvs k,H a=some (.dK kvs)∧y=kV k∧kvs.length < sizeLine∧(∀ r,valV kvs k=some r→Q r H)∧(valV kvs k=none→Q z (upd H a (.dK (putK kvs k z))))) ∨
  ∃kvs k b,H a=some (.dT kvs)∧y=.ref b∧H b=some (.tup (k.map kV))∧kvs.length < sizeLine∧(∀ r,valV kvs k=some r→Q r H)∧(valV kvs k=none→Q z (upd H a (.dT (putK kvs k z)))))
theorem ϱZ (a b c:Value):argsOk "dict.setdefault" ⟨[a,b,c],[]⟩:=by unfold argsOk;kernel_rfl
theorem ϕC {k0:Nat} (hr:Room k0 X.A):MtR X "dict.setdefault" rSetD:=by
 intro pins s σ H x vs v us Q I rx rv h
 obtain⟨a,y,z,rfl,rfl,h⟩:=h
 cases rx
 obtain⟨u,r,rfl,ru,rr⟩:=ϵy rv
 rcases h with⟨kvs,k,e,rfl,hl,h1,h2⟩|⟨kvs,k,b,e,rfl,eb,hl,h1,h2⟩
 ·obtain⟨hz,hd,ws,rel,dd⟩:=dk_of I.hok e
  refine call_meetsIn PySem.F.slot_dict_setdefault dd.typeIs PySem.F.entry_dict_setdefault (ϱZ _ _ _) (kt_meets_setdefault (ϖV X.prog X.w) a (ϱq ru) hd r)
   ⟨ws,dd,by rw[← rel.length];exact hz,fun v' hv'=>?_,fun hn h' dd' hs=>?_⟩
  ·have q:=rel.val k
   rw[hv'] at q
   cases hk:valV kvs k with
   |none=>rw[hk] at q;exact q.elim
   |some r'=>rw[hk] at q;exact⟨r',H,I.tok _,q,h1 r' hk⟩
  ·have q:=rel.val k
   rw[hn] at q
   cases hk:valV kvs k with
   |some r'=>rw[hk] at q;exact q.elim
   |none=>
    refine⟨z,_,ϰt I (by rw[e];exact True.intro) hs (let ⟨q,_,_,hq,_⟩:=dd';⟨q,hq⟩) (ϲj ?_ hd (rel.put k rr) dd'),rr,h2 hk⟩
    have:=ϑd kvs k z
    omega
 ·cases (show u=Value.ref b from ru)
  obtain⟨hz,hd,xs,rel,dd⟩:=dt_of I.hok e
  refine call_meetsIn PySem.F.slot_dict_setdefault dd.typeIs PySem.F.entry_dict_setdefault (ϱZ _ _ _) (ϵ2 (knd:=tupleKind (ϖV X.prog X.w)) (d:=a) (a:=b) hd r)
   ⟨tupleKind_room_in1 (ϑx hr),k,xs,ϰd I.hok eb,dd,by rw[← Paired.length rel];exact hz,fun p hp=>?_,fun hn h' dd' hs=>?_⟩
  ·have q:=rel.val k
   rw[hp] at q
   cases hk:valV kvs k with
   |none=>rw[hk] at q;exact q.elim
   |some r'=>rw[hk] at q;exact⟨r',H,I.tok _,q,h1 r' hk⟩
  ·have q:=rel.val k
   rw[hn] at q
   cases hk:valV kvs k with
   |some r'=>rw[hk] at q;exact q.elim
   |none=>
    obtain⟨q,es,ep,hq,g2,g3,g4,_,g5⟩:=dd'
    refine⟨z,upd H a (.dT (putK kvs k z)),ϰt (ob:=.dT (putK kvs k z)) I (by rw[e];exact True.intro) hs ⟨q,hq⟩ ⟨?_,hd,_,(rel.put k eb rr).keeps fun c ys ec=>?_,q,es,ep,hq,g2,g3,g4,g5⟩,rr,h2 hk⟩
    ·have:=ϑd kvs k z
     omega
    ·rw[ϖs (ne_of ec e (fun z=>nomatch z))]
     exact ec
def rGet2:V→List V→Hp→VK→Prop:=fun x vs H Q=>∃a y z o,x=.ref a∧vs=[y,z]∧DGet H a y o∧Q (o.getD z) H
theorem ϱ5 {k0:Nat} (hr:Room k0 X.A):MtR X "dict.get" rGet2:=by
 intro pins s σ H x vs v us Q I rx rv h
 obtain⟨a,y,z,o,rfl,rfl,g,q⟩:=h
 cases rx
 obtain⟨u,r,rfl,ru,rr⟩:=ϵy rv
 exact d_get2 (ϑx hr) I g ru rr fun w' s' I' rw'=>⟨_,H,I',rw',q⟩
end
end L3
namespace L3
open PySem PySem.Spec PyProof.Rows L2
section
variable {X:Cx}{tg:Expr}
end
end L3
namespace L3
open PySem PySem.Spec PyProof.Rows L2 PySem.W
def RawD (d:Addr) (es:Array DictEntry) (p:Nat) (h:Heap):Prop:=∃b,h.get? d=some b∧b.ExactDict∧b.data=.dict es p
section
variable {prog:Program}{w:World}{A:Around}{E:Value→Shared→Prop}{s:Shared}{d it:Addr}{es:Array DictEntry}{p i:Nat}
theorem RawD.ty (r:RawD d es p s.heap):s.TypeIs (.ref d) "dict":=let ⟨b,e,x,_⟩:=r;⟨b,e,x.1⟩
theorem RawD.at {h h':Heap} (r:RawD d es p h) (k:∀o,h.get? d=some o→h'.get? d=some o):RawD d es p h':=let ⟨b,e,x⟩:=r;⟨b,k _ e,x⟩
theorem RawD.lt {h:Heap} (r:RawD d es p h):d < h.objs.size:=let ⟨_,e,_⟩:=r;Heap.lt_size e
theorem ϡb {Q:Value→Shared→Prop} (lo:(d == sysModules)=false) (r:RawD d es p s.heap)
  (q:Q (.ref s.heap.objs.size) { s with heap:=s.heap.push { cls:=.type "dict_keyiterator",data:=.fields #[.ref d,.int 0 0,.int es.size 0,.int p 0] } }):wpAny (model prog w) A (pyIter (.ref d)) Q E s:=by
 obtain⟨b,eb,xb,db⟩:=id r
 refine wpAny_pyIter_slot r.ty PySem.F.slot_dict_iter (wpAny_call_entry PySem.F.slot_dict_iter r.ty PySem.F.entry_dict_iter ?_ (PySem.F.args_dict_iter_1 _))
 unfold Builtin.«dict.__iter__»
 refine wpAny_bind ?_
 unfold Builtin.Dict.dictSlotNone
 refine wpAny_bind (wpAny_notOrdered_dict r.ty ?_)
 show wpAny _ _ (pure (.ref d:Value)) _ _ s
 refine wpAny_pure ?_
 show wpAny _ _ (Builtin.Dict.showsAll d >>= fun _=>_) _ _ s
 unfold Builtin.Dict.showsAll
 rw[lo]
 refine wpAny_bind (wpAny_pure (wpAny_bind (wpAny_dictEntries eb db (wpAny_bind (wpAny_dictEpoch eb db ?_)))))
 exact wpAny_bind (wpAny_newObj_type (wpAny_pure ⟨_,rfl,_,_,⟨_,Heap.get?_push_size _ rfl,rfl⟩,PySem.F.slot_dict_keyiterator_next.lookup,q⟩))
theorem ϲX {Q:Option Value→Shared→Prop}{e:DictEntry} (st:s.heap.IsKeyIter it d i es.size p) (r:RawD d es p s.heap) (hx:es[i]?=some e)
  (q:∀h',h'.IsKeyIter it d (i+1) es.size p→Heap.SameBut it s.heap h'→Q (some e.key) { s with heap:=h' }):wpAny (model prog w) A (pyNext (.ref it)) Q E s:=by
 obtain⟨b,eb,cb,db⟩:=id st
 obtain⟨c,ec,xc,dc⟩:=id r
 unfold pyNext
 refine wpAny_bind (wpAny_attempt (wpAny_callSpecial?_slot (name:=Str.ofString "__next__") st.typeIs PySem.F.slot_dict_keyiterator_next (wpAny_call_entry PySem.F.slot_dict_keyiterator_next st.typeIs PySem.F.entry_dict_keyiterator_next ?_ (PySem.F.args_dict_keyiterator_next_1 _))))
 refine wpAny_bind (wpAny_pure (wpAny_bind (wpAny_bind ?_)))
 refine wpAny_bind (wpAny_typeNameOfWhole_keyiter st.typeIs (wpAny_pure (wpAny_bind (wpAny_fieldsOf eb db ?_))))
 have own:Builtin.Dict_items.ownsTuple "dict_keyiterator"=false:=by decide
 simp only[own,Bool.false_eq_true,if_false]
 show wpAny _ _ (if (Value.ref d == Value.none)=true then _ else _) _ _ _
 rw[if_neg (by intro z;cases z)]
 refine wpAny_bind (wpAny_pure (wpAny_bind (wpAny_dictEntries ec dc ?_)))
 rw[if_neg (by simp)]
 refine wpAny_bind (wpAny_pure (wpAny_bind (wpAny_dictEpoch ec dc ?_)))
 rw[if_neg (by simp)]
 refine wpAny_pure ?_
 simp only[show ¬ ((i:Int) < 0) by omega,if_false,Int.toNat_natCast,hx]
 refine wpAny_bind (wpAny_bind (wpAny_typeNameOfWhole_keyiter st.typeIs (wpAny_pure ?_)))
 refine wpAny_bind (wpAny_isOneOf_keyiter st.typeIs ?_)
 show wpAny _ _ (setField (.ref it) 1 (rawInt (i+1)) >>= _) _ _ _
 refine wpAny_bind (wpAny_setField eb db (by simp) ?_)
 have st':(s.heap.update it (Obj.mapFields (·.setIfInBounds 1 (rawInt ((i:Int)+1))))).IsKeyIter it d (i+1) es.size p:=
  ⟨_,Heap.get?_update_self _ eb (Obj.isFreed_of_fields (Obj.data_mapFields db _)),(Obj.cls_mapFields ..).trans cb,by rw[Obj.data_mapFields db];simp[rawInt]⟩
 refine wpAny_bind (wpAny_holding (wpAny_bind (wpAny_isOneOf_keyiter (s:={ s with heap:=_ }) st'.typeIs ?_)))
 show wpAny _ _ (pure e.key) _ _ _
 exact wpAny_pure (wpAny_pure ⟨_,rfl,wpAny_pure (q _ st' (Heap.SameBut.update ..))⟩)
theorem rd_end {Q:Option Value→Shared→Prop} (hh:A.handled=none) (st:s.heap.IsKeyIter it d i es.size p) (r:RawD d es p s.heap) (hx:es[i]?=none)
  (q:∀h',Heap.ExtBut it s.heap h'→Q none { s with heap:=h' }):wpAny (model prog w) A (pyNext (.ref it)) Q E s:=by
 obtain⟨b,eb,cb,db⟩:=id st
 obtain⟨c,ec,xc,dc⟩:=id r
 unfold pyNext
 refine wpAny_bind (wpAny_attempt (wpAny_callSpecial?_slot (name:=Str.ofString "__next__") st.typeIs PySem.F.slot_dict_keyiterator_next (wpAny_call_entry PySem.F.slot_dict_keyiterator_next st.typeIs PySem.F.entry_dict_keyiterator_next ?_ (PySem.F.args_dict_keyiterator_next_1 _))))
 refine wpAny_bind (wpAny_pure (wpAny_bind (wpAny_bind ?_)))
 refine wpAny_bind (wpAny_typeNameOfWhole_keyiter st.typeIs (wpAny_pure (wpAny_bind (wpAny_fieldsOf eb db ?_))))
 have own:Builtin.Dict_items.ownsTuple "dict_keyiterator"=false:=by decide
 simp only[own,Bool.false_eq_true,if_false]
 show wpAny _ _ (if (Value.ref d == Value.none)=true then _ else _) _ _ _
 rw[if_neg (by intro z;cases z)]
 refine wpAny_bind (wpAny_pure (wpAny_bind (wpAny_dictEntries ec dc ?_)))
 rw[if_neg (by simp)]
 refine wpAny_bind (wpAny_pure (wpAny_bind (wpAny_dictEpoch ec dc ?_)))
 rw[if_neg (by simp)]
 refine wpAny_pure ?_
 simp only[show ¬ ((i:Int) < 0) by omega,if_false,Int.toNat_natCast,hx]
 refine wpAny_bind (wpAny_bind (wpAny_typeNameOfWhole_keyiter st.typeIs (wpAny_pure ?_)))
 show wpAny _ _ (setField (.ref it) 0 Value.none >>= _) _ _ _
 refine wpAny_bind (wpAny_setField eb db (by simp) ?_)
 show wpAny _ _ (newExc (.type "StopIteration") ([]:List Value) >>= _) _ _ _
 refine wpAny_bind ?_
 simp only[newExc,newTuple]
 refine wpAny_bind (wpAny_newObj_type (wpAny_bind (m:=firstArgMember _ _) (wpAny_of_eq (a:=.none) (by first|rfl|(simp only[firstArgMember];rfl)) (wpAny_newObj_type ?_ (by size_fits)))) (by size_fits))
 simp only[raiseNew]
 refine wpAny_bind (wpAny_handled ?_)
 rw[show A.in1.handled=none from hh]
 refine wpAny_bind (wpAny_pure (wpAny_throw ?_))
 refine wpAny_bind (wpAny_isInstance (b:=true) (T:="StopIteration") ⟨_,Heap.get?_push_size _ rfl,rfl⟩ isSubtype_stop ?_)
 exact wpAny_pure (q _ (((Heap.SameBut.update ..).extBut.push _).push _))
theorem ϵW (hh:A.handled=none) (hne:d≠it) (es:Array DictEntry) (p:Nat) :
  Walks prog w A it [it,d] [it] es.size (fun i v=>∃e,es[i]?=some e∧v=e.key) (fun i h=>h.IsKeyIter it d i es.size p∧RawD d es p h) where
 sub:=fun b hb=>by simp at hb;simp[hb]
 frame:=fun _ _ _ st k=>⟨st.1.at fun o e=>k it (by simp) o e,st.2.at fun o e=>k d (by simp) o e⟩
 item:=fun i s Q E hi st q=>by
  have hx:es[i]?=some es[i]:=by simp[hi]
  exact ϲX st.1 st.2 hx fun h' st' sb=>q _ h' s.toks ⟨_,hx,rfl⟩ ⟨st',st.2.at fun o e=>sb.extBut d o hne e⟩ fun b o hb e=>sb.extBut b o (fun z=>hb (by simp[z])) e
 done:=fun s Q E st q=>rd_end hh st.1 st.2 (by simp) fun h' eb=>q h' s.toks fun b o hb e=>eb b o (fun z=>hb (by simp[z])) e
 self:=fun _ _ _ _ st q=>wpAny_pyIter_keyiter st.1 q
theorem ϲe (lo:(d == sysModules)=false):KdlSrc prog w "dict" d d es.size (fun i v=>∃e,es[i]?=some e∧v=e.key) (RawD d es p) where
 type:=fun _ r=>r.ty
 there:=fun _ r=>⟨r.lt,r.lt⟩
 keep:=fun _ _ r k=>r.at fun o e=>k d (.inl rfl) o e
 notList:=by decide
 notTuple:=by decide
 hint:=fun _ _ _ _ r q=>kdl_hint_dict r.ty q
 iter:=fun _ _ hh r=>⟨_,_,fun _ _ q=>ϡb lo r q,ϵW hh (Nat.ne_of_lt r.lt) es p,⟨⟨_,Heap.get?_push_size _ rfl,rfl,rfl⟩,r.at fun o e=>Heap.get?_push_of_some _ e⟩⟩
end
end L3
namespace L3
open PySem PySem.Spec PyProof.Rows L2 PySem.W
section
variable {prog:Program}{w:World}{A:Around}{E:Value→Shared→Prop}{s:Shared}{d:Addr}{es:Array DictEntry}{p:Nat}
end
end L3
namespace L3
open PySem PySem.Spec PyProof.Rows L2 PySem.W
theorem ϖK {α β:Type}{F:α→β→Prop}:∀{l:List α}{m:List β}{i:Nat}{a:α},Paired F l m→l[i]?=some a→∃b,m[i]?=some b∧F a b
 |_,_,_,_,.nil,e=>by simp at e
 |_,_,0,_,.cons r _,e=>by simp at e;subst e;exact⟨_,rfl,r⟩
 |_,_,i+1,a,.cons _ t,e=>by
  obtain⟨b,h1,h2⟩:=ϖK (i:=i) (a:=a) t (by simpa using e)
  exact⟨b,by simpa using h1,h2⟩
theorem ϱ0 {ys:List V}{us:List Value} (hl:us.length=ys.length) (h:∀(i:Nat) (u:Value) (y:V),us[i]?=some u→ys[i]?=some y→RelV y u):Vals ys us:=by
 induction ys generalizing us with
 |nil=>cases us with|nil=>exact .nil|cons _ _=>cases hl
 |cons y ys ih=>
  cases us with
  |nil=>cases hl
  |cons u us=>exact .cons (h 0 u y rfl rfl) (ih (Nat.succ.inj hl) fun i u' y' e1 e2=>h (i+1) u' y' (by simpa using e1) (by simpa using e2))
section
variable {X:Cx}{pins:List (Addr×Obj)}{σ:L2.St}{H:Hp}{s:Shared}{a:Addr}
theorem raw_k {kvs:List (Key×V)} (I:Inv X pins σ H s) (e:H a=some (.dK kvs)):kvs.length≤sizeLine∧(a == sysModules)=false∧∃es p,RawD a es p s.heap∧es.size=kvs.length∧∀(i:Nat) (x:DictEntry) (kv:Key×V),es[i]?=some x→kvs[i]?=some kv→RelV (kV kv.1) x.key:=by
 obtain⟨z,lo,vs,r,o,es,p,h1,h2,h3,h4,h5,h6⟩:=(show ObjOk X.prog X.w H s.heap a (.dK kvs) from I.hok a _ e)
 have hsz:es.size=kvs.length:=by rw[r.length,← h5.length];simp
 refine⟨z,lo,es,p,⟨o,h1,h2,h3⟩,hsz,fun i x kv ex ek=>?_⟩
 obtain⟨q,hq,⟨e1,_⟩⟩:=ϖK r ek
 have hk:=(h5.get? (i:=i) (e:=x) (k:=q.1) (v:=q.2) (by rw[Array.getElem?_toList];exact ex) hq).1
 rw[e1]
 rcases ϖ0 hk with⟨n,t,h7,h8⟩|⟨n,t,h7,h8⟩
 ·rw[h7,h8];exact⟨t,rfl⟩
 ·rw[h7,h8];exact⟨t,rfl⟩
theorem raw_t {kvs:List (List Key×V)} (I:Inv X pins σ H s) (e:H a=some (.dT kvs)):kvs.length≤sizeLine∧(a == sysModules)=false∧∃es p,RawD a es p s.heap∧es.size=kvs.length ∧
  ∃bs:List Addr,Paired (fun (kv:List Key×V) b=>H b=some (.tup (kv.1.map kV))) kvs bs∧∀(i:Nat) (x:DictEntry) (b:Addr),es[i]?=some x→bs[i]?=some b→x.key=.ref b:=by
 obtain⟨z,lo,xs,r,o,es,p,h1,h2,h3,h4,h9⟩:=(show ObjOk X.prog X.w H s.heap a (.dT kvs) from I.hok a _ e)
 have hsz:es.size=kvs.length:=by rw[Paired.length r,← Array.length_toList,h4,List.length_map]
 refine⟨z,lo,es,p,⟨o,h1,h2,h3⟩,hsz,xs.map (·.2.1),?_,fun i x b ex eb=>?_⟩
 ·clear h4 h9 hsz z e
  induction r with
  |nil=>exact .nil
  |cons q _ ih=>exact .cons q.2.1 ih
 ·rw[← Array.getElem?_toList,h4,List.getElem?_map] at ex
  rw[List.getElem?_map] at eb
  cases hx:xs[i]? with
  |none=>rw[hx] at eb;cases eb
  |some q=>
   rw[hx] at ex eb
   cases ex
   cases eb
   rfl
def rListD:List V→Hp→VK→Prop:=fun xs H Q=>∃a,xs=[.ref a] ∧
 ((∃ kvs,H a=some (.dK kvs)∧∀l,H l=none→Q (.ref l) (upd H l (.lst (kvs.map fun kv=>kV kv.1)))) ∨
  ∃kvs,H a=some (.dT kvs)∧∀(bs:List Addr) l,Paired (fun (kv:List Key×V) b=>H b=some (.tup (kv.1.map kV))) kvs bs→H l=none→Q (.ref l) (upd H l (.lst (bs.map V.ref))))
theorem ϱt (hc:X.calm=true):ϕ_ X (.type "list") rListD:=by
 intro pins s σ H xs us Q I r h
 obtain⟨a,rfl,h⟩:=h
 obtain⟨u,rfl,ru⟩:=ϲA r
 cases ru
 have fin:∀(ys:List V) (es:Array DictEntry) (h':Heap) (tk:Nat) (acc:Array Value) (c:Nat),ys.length≤sizeLine→es.size=ys.length→(∀ (i:Nat) (x:DictEntry) (y:V),es[i]?=some x→ys[i]?=some y→RelV y x.key) →
   (∀ b o,s.heap.get? b=some o→h'.get? b=some o)→h'.get? s.heap.objs.size=some { cls:=.type "list",dict:=none,data:=.seq acc c,slots:=#[] }→ItemsOf (fun i v=>∃e,es[i]?=some e∧v=e.key) acc es.size →
   (∀ l,H l=none→Q (.ref l) (upd H l (.lst ys)))→EP X pins σ Q (.ref s.heap.objs.size) { s with heap:=h',toks:=tk }:=fun ys es h' tk acc c z hs hr kp e it q=>by
  refine⟨.ref s.heap.objs.size,_,I.laid (t':=tk) (o:=.lst ys) kp (Nat.le_refl _) ⟨z,acc.toList,c,ϱ0 (by rw[Array.length_toList,it.1,hs]) fun i u y e1 e2=>?_,?_⟩,rfl,q _ (I.hok.fresh (Nat.le_refl _))⟩
  ·obtain⟨x,ex,rfl⟩:=it.2 i u (by rw[← Array.getElem?_toList];exact e1)
   exact hr i x y ex e2
  ·rw[Array.toArray_toList];exact e
 rcases h with⟨kvs,e,q⟩|⟨kvs,e,q⟩
 ·obtain⟨z,lo,es,p,rr,hs,hr⟩:=raw_k I e
  refine kdl_call (ϲe (p:=p) lo) (I.ok.hd hc) rr (by rw[hs];exact z) fun h' tk acc c kp e' it=>fin _ es h' tk acc c (by rw[List.length_map];exact z) (by rw[List.length_map];exact hs) (fun i x y ex ey=>?_) kp e' it q
  rw[List.getElem?_map] at ey
  cases hk:kvs[i]? with
  |none=>rw[hk] at ey;cases ey
  |some kv=>rw[hk] at ey;cases ey;exact hr i x kv ex hk
 ·obtain⟨z,lo,es,p,rr,hs,bs,pb,hr⟩:=raw_t I e
  have hb:=Paired.length pb
  refine kdl_call (ϲe (p:=p) lo) (I.ok.hd hc) rr (by rw[hs];exact z) fun h' tk acc c kp e' it=>fin _ es h' tk acc c (by rw[List.length_map,← hb];exact z) (by rw[List.length_map,← hb];exact hs) (fun i x y ex ey=>?_) kp e' it fun l hl=>q bs l pb hl
  rw[List.getElem?_map] at ey
  cases hk:bs[i]? with
  |none=>rw[hk] at ey;cases ey
  |some b=>rw[hk] at ey;cases ey;exact hr i x b ex hk
end
end L3
namespace L3
open PySem PySem.Spec PyProof.Rows L2
end L3
namespace L3
open PySem PySem.Spec PyProof.Rows L2
section
variable {X:Cx}{pins:List (Addr×Obj)}{σ:List (Option V)}{H:Hp}{s:Shared}{h':Heap}
theorem ϲs {t':Nat}{e it:Addr} (I:Inv X pins σ H s) (k:∀b o,b≠e→b≠it→s.heap.get? b=some o→h'.get? b=some o) (fe:FpOk X pins H e) (fi:FpOk X pins H it):Inv X pins σ H { s with heap:=h',toks:=t' }:=by
 have ne:∀b u,H b=some u→b≠e∧b≠it:=fun b u q=>⟨(fun z=>by rw[z,fe.1] at q;cases q),(fun z=>by rw[z,fi.1] at q;cases q)⟩
 have kk:∀b o,b∉[e,it]→s.heap.get? b=some o→h'.get? b=some o:=fun b o hc q=>k b o (fun z=>hc (by simp[z])) (fun z=>hc (by simp[z])) q
 refine I.step (g':=s.gens) (d':=s.drawn) (ch:=[e,it]) ?_ (fun b o _ _ hc q _=>kk b o hc q) (fun b o _ _ hc q _=>⟨o.slots,kk b o hc q⟩) (fun _ _ _ _ n=>n)
  (fun b o hc q=>⟨o,kk b o hc q⟩) (fun _ _ q=>q) (fun _ _ _ q=>q) (fun b ps q=>⟨#[],by rw[q];simp⟩) ?_ ?_ I.bare
 ·intro b hb
  have hb:b=e∨b=it:=by simpa using hb
  rcases hb with rfl|rfl
  ·exact⟨fe.2.2.2.1,fe.2.1,fe.2.2.2.2.1,fe.2.2.2.2.2⟩
  ·exact⟨fi.2.2.2.1,fi.2.1,fi.2.2.2.2.1,fi.2.2.2.2.2⟩
 ·rintro m ⟨o,es,ep,ho,r⟩
  exact⟨o,es,ep,k _ o (Ne.symm fe.2.1) (Ne.symm fi.2.1) ho,r⟩
 ·intro b u q
  refine(I.hok b u q).stay (fun c v hc z=>?_) (fun _ z=>z) fun _ _ z=>z
  have:c≠e∧c≠it:=by
   rcases hc with y|y
   ·rw[y];exact ne b u q
   ·exact ne c _ y
  exact k c v this.1 this.2 z
end
def Ite (K:PySem.W.Frag) (a:Addr):It:=
 ⟨fun i H=>∃xs x,SqL K H a xs∧xs[i]?=some x,fun i H x H'=>∃p y,H p=none∧x=.ref p∧H'=upd H p (.tup [.int i,y])∧∀xs,SqL K H a xs→xs[i]?=some y,fun i H=>∃xs,SqL K H a xs∧xs.length≤i⟩
theorem ϵl {P:Program}{w:World}{K:PySem.W.Frag}{es:List Expr}{x1:Nat}{tp:Pos}{a e it:Addr} (hne:e≠it) :
  Turn P w K (.Tuple es x1 tp) (Ite K a) [e,it] e (fun i h=>∃old,IsEnum h e it (i:Int) old∧h.IsListIter it a i) where
 mem:=by simp
 obj:=by
  rintro i h ⟨old,he,o,e1,c,d⟩ b hb
  have hb:b=e∨b=it:=by simpa using hb
  rcases hb with rfl|rfl
  ·exact⟨_,he,fun v z=>by cases z⟩
  ·exact⟨o,e1,fun v z=>by rw[d] at z;cases z⟩
 keep:=by
  rintro i h h' ⟨old,he,st⟩ k
  exact⟨old,k e (by simp) _ he,st.at fun o q=>k it (by simp) o q⟩
 item:=by
  intro X hP hw hK hc i pins s σ H E I hf st hg
  subst hP hw hK
  obtain⟨old,he,hit⟩:=st
  obtain⟨xs,x,hq,hx⟩:=hg
  obtain⟨its,rv,p,hz⟩:=I.list hq
  obtain⟨u,hu,ru⟩:=rv.get hx
  have fe:=hf e (by simp)
  have fi:=hf it (by simp)
  refine wpAny_pyNext_enum_item he hit p.isList (x:=u) (by simpa using hu) hne fun h1 heo hit1 ht1 hz1 hk1=>⟨_,rfl,?_⟩
  refine wpAny_letOwnedTupleGo_enum heo fun h2 he2 hs2=>?_
  replace hs2:Heap.SameBut e h1 h2:=hs2
  have hel:e < s.heap.objs.size:=Heap.lt_size he
  have hil:it < s.heap.objs.size:=by obtain⟨o,ho,_⟩:=hit;exact Heap.lt_size ho
  have hp0:H s.heap.objs.size=none:=I.hok.fresh (Nat.le_refl _)
  have ht2:h2.get? s.heap.objs.size=some { cls:=.type "tuple",data:=.seq #[.int i s.toks,u] }:=(hs2.2 _ (Nat.ne_of_gt hel)).trans ht1
  have I1:Inv X pins σ (upd H s.heap.objs.size (.tup [.int i,x])) { s with heap:=s.heap.push { cls:=.type "tuple",data:=.seq #[.int i s.toks,u] },toks:=s.toks+1 }:=
   I.laid (fun b v q=>Heap.get?_push_of_some _ q) (Nat.le_refl _) ⟨by show 2≤sizeLine;decide,[.int i s.toks,u],.cons ⟨_,rfl⟩ (.cons ru .nil),⟨_,Heap.get?_push_size _ rfl,rfl,_,rfl⟩⟩
  have off:∀b,b < s.heap.objs.size→FpOk X pins H b→FpOk X pins (upd H s.heap.objs.size (.tup [.int i,x])) b:=fun b hb f=>⟨by rw[ϖs (Nat.ne_of_lt hb)];exact f.1,f.2⟩
  have I2:Inv X pins σ (upd H s.heap.objs.size (.tup [.int i,x])) { s with heap:=h2,toks:=s.toks+1 }:=ϲs (s:={ s with heap:=s.heap.push { cls:=.type "tuple",data:=.seq #[.int i s.toks,u] },toks:=s.toks+1 }) (t':=s.toks+1) I1 (fun b o n1 n2 q=>by
   replace q:(s.heap.push { cls:=.type "tuple",data:=.seq #[.int i s.toks,u] }).get? b=some o:=q
   rcases Heap.get?_push_cases q with⟨z,z'⟩|q'
   ·subst z;subst z';exact ht2
   ·exact(hs2.2 b n1).trans (hk1 b o n1 n2 q')) (off e hel fe) (off it hil fi)
  refine⟨.ref s.heap.objs.size,_,I2,rfl,⟨_,x,hp0,rfl,rfl,fun ys hy=>by rw[I.list_inj hy hq];exact hx⟩,⟨u,?_,?_⟩,fun b hb=>?_⟩
  ·have e1:((i+1:Nat):Int)=(i:Int)+1:=by push_cast;rfl
   rw[e1];exact he2
  ·exact hit1.extBut hs2.extBut (Ne.symm hne)
  ·have hb:b=e∨b=it:=by simpa using hb
   rcases hb with rfl|rfl
   ·exact(off _ hel fe).1
   ·exact(off _ hil fi).1
 done:=by
  intro X hP hw hK hc i pins s σ H E I hf st hg
  subst hP hw hK
  obtain⟨old,he,hit⟩:=st
  obtain⟨xs,hq,hx⟩:=hg
  obtain⟨its,rv,p,hz⟩:=I.list hq
  have hl:=rv.length
  obtain⟨f0,f1,f2,f3,f4,f5⟩:=hf it (by simp)
  exact wpAny_pyNext_enum_end (I.ok.hd hc) he hit p.isList (by simp;omega) fun h' eb=>⟨rfl,I.turned (t':=s.toks) (fun b o hb q=>eb b o hb q) f0 f1 f3 f4 f5⟩
 self:=fun _ _ _ _ _ ⟨_,he,_⟩ h=>wpAny_pyIter_enum he h
section
variable {X:Cx}
def iEnu (K:PySem.W.Frag) (ta:TA):TI:=fun σ H R=>ta σ H fun vs H1=>∃a,vs=[.ref a]∧(∃ xs,SqL K H1 a xs)∧R (Ite K a) H1
theorem ϰr {l:Expr}{ta:TA}{p pos tp:Pos}{es:List Expr}{x1:Nat} (hg:Gl X "enumerate") (hm:X.mg "enumerate"=none) (ha:PA X [l] ta) (hs:starEach [l] X.env=[(false,eval l X.env)]:=by rfl) :
  PI X (.Tuple es x1 tp) (.Call (.Name "enumerate" p) [l] [] pos) (iEnu X.K ta):=by
 intro pins s σ H R I h
 refine Call_ (ϕ5 I hg hm boot_enumerate (PyProof.Rows.callWith_type1 (thn (ha pos pins s σ H _ I h) fun us s1 ⟨vs,H1,I1,r1,q1⟩=>?_) hs rfl))
 obtain⟨a,rfl,⟨xs,hq⟩,q⟩:=q1
 cases r1 with
 |cons r rr=>
  cases rr
  cases r
  obtain⟨its,rv,pL,hz⟩:=I1.list hq
  refine call_enumerate_list pL.isList fun h' he hit hz' hk=>?_
  refine wpAny_pyIter_enum he ?_
  refine⟨_,[s1.heap.objs.size+1,s1.heap.objs.size],_,_,H1,rfl,I1.kept (t':=s1.toks) hk,ϵl (e:=s1.heap.objs.size+1) (it:=s1.heap.objs.size) (Nat.succ_ne_self _),⟨.none,he,hit⟩,fun b hb=>?_,q⟩
  have hb:b=s1.heap.objs.size+1∨b=s1.heap.objs.size:=by simpa using hb
  rcases hb with rfl|rfl
  ·exact I1.fpOk (by omega) (I1.hok.fresh (by omega))
  ·exact I1.fpOk (Nat.le_refl _) (I1.hok.fresh (Nat.le_refl _))
end
theorem ϑ8 {K:PySem.W.Frag}{a:Addr}{xs:List V}{g:TG}{tb:TS}{D:Ends}{σ:L2.St}{H:Hp} (Pv:Nat→L2.St→Hp→Prop) (h0:Pv 0 σ H) (hl:∀i σ H,i≤xs.length→Pv i σ H→SqL K H a xs)
  (hs:∀i x p σ H,xs[i]?=some x→Pv i σ H→H p=none→g (.ref p) σ (upd H p (.tup [.int i,x])) fun σ2 H2=>tb { D with nx:=Pv (i+1),ct:=Pv (i+1),bk:=D.nx } σ2 H2) (hd:∀σ H,Pv xs.length σ H→D.nx σ H) :
  ∃W:Nat→Nat→L2.St→Hp→Prop,(∃ m,W 0 m σ H)∧∀i m σ H,W i m σ H →
   ((Ite K a).stop i H∧D.nx σ H)∨((Ite K a).go i H∧∃N:L2.St→Hp→Prop,(∀ σ' H',N σ' H'→∃m',m' < m∧W (i+1) m' σ' H')∧∀x H',(Ite K a).yld i H x H'→g x σ H' fun σ2 H2=>tb { D with nx:=N,ct:=N,bk:=D.nx } σ2 H2):=by
 refine⟨fun i m σ H=>m=xs.length-i∧i≤xs.length∧Pv i σ H,⟨xs.length,by simp,Nat.zero_le _,h0⟩,?_⟩
 rintro i m σ H ⟨rfl,hi,p⟩
 have q:=hl i σ H hi p
 by_cases hlt:i < xs.length
 ·refine .inr ⟨⟨xs,xs[i],q,by simp[hlt]⟩,Pv (i+1),fun σ' H' p'=>⟨xs.length-(i+1),by omega,rfl,hlt,p'⟩,fun x H' y=>?_⟩
  obtain⟨b,z,hb,rfl,rfl,y⟩:=y
  exact hs i z b σ H (y xs q) p hb
 ·have e:i=xs.length:=by omega
  subst e
  exact .inl ⟨⟨xs,q,Nat.le_refl _⟩,hd σ H p⟩
end L3
namespace L3
open PySem PySem.Spec PyProof.Rows L2
section
variable {X:Cx}{pins:List (Addr×Obj)}{σ:List (Option V)}{H:Hp}{s:Shared}
theorem hold_k {a:Addr}{kvs:List (Key×V)} (I:Inv X pins σ H s) (e:H a=some (.dK kvs)):∃o,s.heap.get? a=some o∧Inv X pins σ (upd H a (.frz o (.dK kvs))) s:=by
 have x:=(show ObjOk X.prog X.w H s.heap a (.dK kvs) from I.hok a _ e)
 obtain⟨z,lo,vs,r,o,es,p,h1,h2⟩:=id x
 refine⟨o,h1,?_⟩
 have:=I.write (x:=a) (e:=a) (h':=s.heap) (t':=s.toks) (o:=.frz o (.dK kvs)) (by rw[e];trivial) (.inl rfl) (fun b u _ q=>q) ⟨o,h1⟩ ⟨h1,z,lo,vs,r,o,es,p,h1,h2⟩
 exact this
end
theorem ϲY {H:Hp}{d:Addr}{o:Obj}{a b:List (Key×V)} (h1:H d=some (.frz o (.dK a))) (h2:H d=some (.frz o (.dK b))):a=b:=by
 rw[h1] at h2;injection h2 with h2;injection h2 with _ h2;injection h2
section
variable {X:Cx}{tg:Expr}
end
end L3
namespace L3
open PySem PySem.Spec PyProof.Rows L2
section
variable {X:Cx}
end
end L3
namespace L3
open PySem PySem.Spec PyProof.Rows L2
theorem ϰl:entryFor table "dict_itemiterator.__iter__"=some Builtin.«dict_keyiterator.__iter__»:=
 entryFor_alias (id':="dict_keyiterator.__iter__") (by kernel_rfl) (by first|rfl|decide +kernel) (by decide +kernel) (by kernel_rfl)
theorem ϰz {prog:Program}{w:World}{A:Around}{E:Value→Shared→Prop}{s:Shared}{it d:Addr}{i n ep:Nat}{ok ov:Value}{Q:Value→Shared→Prop} (hit:IsItemIter s.heap it d i n ep ok ov) (h:Q (.ref it) s):wpAny (model prog w) A (pyIter (.ref it)) Q E s:=by
 have hT:s.TypeIs (.ref it) "dict_itemiterator":=⟨_,hit,rfl⟩
 refine wpAny_pyIter_slot hT F.slot_dict_itemiterator_iter (wpAny_call_entry F.slot_dict_itemiterator_iter hT ϰl ?_ (F.args_dict_itemiterator_iter_1 _))
 show wpAny _ _ (ret (.ref it)) _ _ s
 exact wpAny_pure ⟨_,rfl,"dict_itemiterator",_,hT,F.slot_dict_itemiterator_next.lookup,h⟩
section
variable {X:Cx}
end
end L3
namespace L3
open PySem PySem.Spec PyProof.Rows L2 PySem.W
section
variable {prog:Program}{w:World}{A:Around}{E:Value→Shared→Prop}{s:Shared}{d it:Addr}{es:Array DictEntry}{p i:Nat}
theorem ϲK (lo:(d == sysModules)=false):MeetsIn prog w (Builtin.«dict.items» ⟨[.ref d],[]⟩) (fun _ R s=>(∃ es p,RawD d es p s.heap)∧R (.ok (.ret (.ref s.heap.objs.size))) { s with heap:=s.heap.push { cls:=.type "dict_items",data:=.fields #[.ref d] } }):=
 .of_wp fun A R s ⟨⟨es,p,r⟩,q⟩=>by
  unfold Builtin.«dict.items» Builtin.Dict.noArgs
  refine wpAny_bind (wpAny_bind (wpAny_notOrdered_dict r.ty ?_))
  show wpAny _ _ (Pure.pure d) _ _ s
  refine wpAny_pure ?_
  show wpAny _ _ (Builtin.Dict.showsAll d >>= fun _=>_) _ _ s
  unfold Builtin.Dict.showsAll
  rw[lo]
  exact wpAny_bind (wpAny_pure (wpAny_bind (wpAny_newObj_type (wpAny_pure ⟨_,rfl,q⟩))))
theorem ϲx {v:Addr}{Q:Value→Shared→Prop} (hv:s.heap.IsItemsView v d) (r:RawD d es p s.heap)
  (q:Q (.ref s.heap.objs.size) { s with heap:=s.heap.push { cls:=.type "dict_itemiterator",data:=.fields #[.none,.bool false,.ref d,.int 0 0,.int es.size 0,.int p 0,.none,.none] } }):wpAny (model prog w) A (pyIter (.ref v)) Q E s:=by
 obtain⟨a,ea,ca,da⟩:=id hv
 obtain⟨b,eb,xb,db⟩:=id r
 refine wpAny_pyIter_slot hv.typeIs PySem.F.slot_dict_items_iter (wpAny_call_entry PySem.F.slot_dict_items_iter hv.typeIs PySem.F.entry_dict_items_iter ?_ (PySem.F.args_dict_items_iter_1 _))
 unfold Builtin.«dict_items.__iter__» Builtin.Dict_items.dictOf Builtin.Dict_items.newIterator
 refine wpAny_bind (wpAny_pure (wpAny_bind (wpAny_bind (wpAny_field ea da (x:=.ref d) rfl (wpAny_pure ?_)))))
 refine wpAny_bind (wpAny_bind (wpAny_dictEntries eb db (wpAny_bind (wpAny_dictEpoch eb db ?_))))
 have own:Builtin.Dict_items.ownsTuple "dict_itemiterator"=true:=by decide
 simp only[own,if_true]
 refine wpAny_newObj_type (wpAny_pure ⟨_,rfl,_,_,⟨_,Heap.get?_push_size _ rfl,rfl⟩,PySem.F.slot_dict_itemiterator_next.lookup,?_⟩) (by simp only[sizeOk,Builtin.Dict_items.ownedTupleFields,List.size_toArray,List.length_append,List.length_cons,List.length_nil,sizeLine_eq];omega)
 simpa [rawInt,Builtin.Dict_items.ownedTupleFields] using q
theorem ϲt {Q:Option Value→Shared→Prop}{e:DictEntry}{ok ov:Value} (st:IsItemIter s.heap it d i es.size p ok ov) (r:RawD d es p s.heap) (hx:es[i]?=some e)
  (q:∀h',IsItemIterOut h' it d (i+1) es.size p e.key e.val s.heap.objs.size→h'.get? s.heap.objs.size=some { cls:=.type "tuple",data:=.seq #[e.key,e.val] } →
   (∀ b o,b≠it→s.heap.get? b=some o→h'.get? b=some o)→Q (some (.ref s.heap.objs.size)) { s with heap:=h' }):wpAny (model prog w) A (pyNext (.ref it)) Q E s:=by
 obtain⟨hp,g,dr,tk,os⟩:=s
 obtain⟨c,ec,xc,dc⟩:=id r
 have ty:Shared.TypeIs ⟨hp,g,dr,tk,os⟩ (.ref it) "dict_itemiterator":=⟨_,st,rfl⟩
 unfold pyNext
 refine wpAny_bind (wpAny_attempt (wpAny_callSpecial?_slot (name:=Str.ofString "__next__") ty PySem.F.slot_dict_itemiterator_next (wpAny_call_entry PySem.F.slot_dict_itemiterator_next ty PySem.F.entry_dict_itemiterator_next ?_ (PySem.F.args_dict_itemiterator_next_1 _))))
 refine wpAny_bind (wpAny_pure (wpAny_bind (wpAny_bind ?_)))
 refine wpAny_bind (wpAny_typeNameOfWhole_itemiter ty (wpAny_pure (wpAny_bind (wpAny_fieldsOf st rfl ?_))))
 have own:Builtin.Dict_items.ownsTuple "dict_itemiterator"=true:=by decide
 simp only[own,if_true]
 show wpAny _ _ (if (Value.ref d == Value.none)=true then _ else _) _ _ _
 rw[if_neg (by intro z;cases z)]
 refine wpAny_bind (wpAny_pure (wpAny_bind (wpAny_dictEntries ec dc ?_)))
 rw[if_neg (by simp)]
 refine wpAny_bind (wpAny_pure (wpAny_bind (wpAny_dictEpoch ec dc ?_)))
 rw[if_neg (by simp)]
 refine wpAny_pure ?_
 simp only[show ¬ ((i:Int) < 0) by omega,if_false,Int.toNat_natCast,hx]
 refine wpAny_bind (wpAny_bind (wpAny_typeNameOfWhole_itemiter ty (wpAny_pure (wpAny_bind (wpAny_isOneOf_itemiter ty ?_)))))
 show wpAny _ _ (setField (.ref it) 3 (rawInt (i+1)) >>= _) _ _ _
 refine wpAny_bind (wpAny_setField_rec st (by simp) fun k1 f1 u1=>?_)
 replace u1:Heap.SameBut it hp k1:=u1
 replace f1:IsItemIter k1 it d (i+1) es.size p ok ov:=by
  have z:((i+1:Nat):Int)=(i:Int)+1:=by omega
  unfold IsItemIter;rw[z];simpa [rawInt] using f1
 have ty1:Shared.TypeIs ⟨k1,g,dr,tk,os⟩ (.ref it) "dict_itemiterator":=⟨_,f1,rfl⟩
 refine wpAny_bind (wpAny_holding (wpAny_bind (wpAny_isOneOf_itemiter ty1 (wpAny_bind (wpAny_isOneOf_itemiter ty1 ?_)))))
 show wpAny _ _ (Builtin.Dict_items.pairFromOwner (.ref it) 6 e.key e.val) _ _ _
 unfold Builtin.Dict_items.pairFromOwner Builtin.Dict_items.ownedTupleIsFree
 refine wpAny_bind (wpAny_newTuple ?_)
 have sz:k1.objs.size=hp.objs.size:=u1.1
 have lt:it < hp.objs.size:=Heap.lt_size st
 obtain⟨k2,ek⟩:∃k2,k2=k1.push { cls:=.type "tuple",data:=.seq #[e.key,e.val] }:=⟨_,rfl⟩
 have f2:IsItemIter k2 it d (i+1) es.size p ok ov:=ek▸Heap.get?_push_of_some _ f1
 have t2:k2.get? hp.objs.size=some { cls:=.type "tuple",data:=.seq #[e.key,e.val] }:=by rw[ek,← sz];exact Heap.get?_push_size _ rfl
 have g2:∀b o,b≠it→hp.get? b=some o→k2.get? b=some o:=fun b o n z=>by rw[ek];exact Heap.get?_push_of_some _ (u1.extBut b o n z)
 rw[← ek,sz]
 show wpAny _ _ _ _ _ (Shared.mk k2 g dr tk os)
 clear ek f1 u1 ty1 sz k1
 refine wpAny_bind (wpAny_bind (wpAny_field f2 rfl (x:=.none) rfl (wpAny_pure ?_)))
 simp only[if_true]
 refine wpAny_bind (wpAny_field f2 rfl (x:=ok) rfl (wpAny_bind (wpAny_field f2 rfl (x:=ov) rfl ?_)))
 refine wpAny_bind (wpAny_setField_rec f2 (by simp) fun k3 f3 u3=>?_)
 replace u3:Heap.SameBut it k2 k3:=u3
 replace f3:IsItemIter k3 it d (i+1) es.size p e.key ov:=f3
 refine wpAny_bind (wpAny_setField_rec f3 (by simp) fun k4 f4 u4=>?_)
 replace u4:Heap.SameBut it k3 k4:=u4
 replace f4:IsItemIter k4 it d (i+1) es.size p e.key e.val:=f4
 refine wpAny_bind (wpAny_setField_rec f4 (by simp) fun k5 f5 u5=>?_)
 replace u5:Heap.SameBut it k4 k5:=u5
 replace f5:IsItemIterOut k5 it d (i+1) es.size p e.key e.val hp.objs.size:=f5
 refine wpAny_bind (wpAny_setField_rec f5 (by simp) fun k6 f6 u6=>?_)
 replace u6:Heap.SameBut it k5 k6:=u6
 replace f6:IsItemIterOut k6 it d (i+1) es.size p e.key e.val hp.objs.size:=f6
 have up:∀b o,b≠it→k2.get? b=some o→k6.get? b=some o:=fun b o n z=>u6.extBut b o n (u5.extBut b o n (u4.extBut b o n (u3.extBut b o n z)))
 exact wpAny_bind (wpAny_letGo (wpAny_pure (wpAny_pure ⟨_,rfl,wpAny_pure (q k6 f6 (up _ _ (Nat.ne_of_gt lt) t2) fun b o n z=>up b o n (g2 b o n z))⟩)))
theorem rp_end {Q:Option Value→Shared→Prop}{ok ov:Value} (hh:A.handled=none) (st:IsItemIter s.heap it d i es.size p ok ov) (r:RawD d es p s.heap) (hx:es[i]?=none)
  (q:∀h',Heap.ExtBut it s.heap h'→Q none { s with heap:=h' }):wpAny (model prog w) A (pyNext (.ref it)) Q E s:=by
 obtain⟨c,ec,xc,dc⟩:=id r
 have ty:s.TypeIs (.ref it) "dict_itemiterator":=⟨_,st,rfl⟩
 unfold pyNext
 refine wpAny_bind (wpAny_attempt (wpAny_callSpecial?_slot (name:=Str.ofString "__next__") ty PySem.F.slot_dict_itemiterator_next (wpAny_call_entry PySem.F.slot_dict_itemiterator_next ty PySem.F.entry_dict_itemiterator_next ?_ (PySem.F.args_dict_itemiterator_next_1 _))))
 refine wpAny_bind (wpAny_pure (wpAny_bind (wpAny_bind ?_)))
 refine wpAny_bind (wpAny_typeNameOfWhole_itemiter ty (wpAny_pure (wpAny_bind (wpAny_fieldsOf st rfl ?_))))
 have own:Builtin.Dict_items.ownsTuple "dict_itemiterator"=true:=by decide
 simp only[own,if_true]
 show wpAny _ _ (if (Value.ref d == Value.none)=true then _ else _) _ _ _
 rw[if_neg (by intro z;cases z)]
 refine wpAny_bind (wpAny_pure (wpAny_bind (wpAny_dictEntries ec dc ?_)))
 rw[if_neg (by simp)]
 refine wpAny_bind (wpAny_pure (wpAny_bind (wpAny_dictEpoch ec dc ?_)))
 rw[if_neg (by simp)]
 refine wpAny_pure ?_
 simp only[show ¬ ((i:Int) < 0) by omega,if_false,Int.toNat_natCast,hx]
 refine wpAny_bind (wpAny_bind (wpAny_typeNameOfWhole_itemiter ty (wpAny_pure ?_)))
 show wpAny _ _ (setField (.ref it) 2 Value.none >>= _) _ _ _
 refine wpAny_bind (wpAny_setField st rfl (by simp) ?_)
 show wpAny _ _ (newExc (.type "StopIteration") ([]:List Value) >>= _) _ _ _
 refine wpAny_bind ?_
 simp only[newExc,newTuple]
 refine wpAny_bind (wpAny_newObj_type (wpAny_bind (m:=firstArgMember _ _) (wpAny_of_eq (a:=.none) (by first|rfl|(simp only[firstArgMember];rfl)) (wpAny_newObj_type ?_ (by size_fits)))) (by size_fits))
 simp only[raiseNew]
 refine wpAny_bind (wpAny_handled ?_)
 rw[show A.in1.handled=none from hh]
 refine wpAny_bind (wpAny_pure (wpAny_throw ?_))
 refine wpAny_bind (wpAny_isInstance (b:=true) (T:="StopIteration") ⟨_,Heap.get?_push_size _ rfl,rfl⟩ isSubtype_stop ?_)
 exact wpAny_pure (q _ (((Heap.SameBut.update ..).extBut.push _).push _))
end
section
variable {X:Cx}{pins:List (Addr×Obj)}{σ:List (Option V)}{H:Hp}{s:Shared}
theorem hold_t {a:Addr}{kvs:List (List Key×V)} (I:Inv X pins σ H s) (e:H a=some (.dT kvs)):∃o,s.heap.get? a=some o∧Inv X pins σ (upd H a (.frz o (.dT kvs))) s:=by
 have x:=(show ObjOk X.prog X.w H s.heap a (.dT kvs) from I.hok a _ e)
 obtain⟨z,lo,xs,r,o,es,p,h1,h2⟩:=id x
 refine⟨o,h1,?_⟩
 have ne:∀c ys,H c=some (.tup ys)→c≠a:=fun c ys ec hz=>by rw[hz,e] at ec;cases ec
 exact I.write (x:=a) (e:=a) (h':=s.heap) (t':=s.toks) (o:=.frz o (.dT kvs)) (by rw[e];trivial) (.inl rfl) (fun b u _ q=>q) ⟨o,h1⟩ ⟨h1,z,lo,xs,ϖg (fun _ _ q=>⟨q.1,(ϖs (ne _ _ q.2.1)).trans q.2.1,q.2.2⟩) r,o,es,p,h1,h2⟩
end
def Itt (d:Addr) (o:Obj):It:=
 ⟨fun i H=>∃kvs kv,H d=some (.frz o (.dT kvs))∧kvs[i]?=some kv,fun i H x H'=>∃p b k y,H p=none∧x=.ref p∧H b=some (.tup (k.map kV))∧H'=upd H p (.tup [.ref b,y])∧∀kvs,H d=some (.frz o (.dT kvs))→kvs[i]?=some (k,y),fun i H=>∃kvs,H d=some (.frz o (.dT kvs))∧kvs.length≤i⟩
theorem ϵ9 {H:Hp}{d:Addr}{o:Obj}{a b:List (List Key×V)} (h1:H d=some (.frz o (.dT a))) (h2:H d=some (.frz o (.dT b))):a=b:=by
 rw[h1] at h2;injection h2 with h2;injection h2 with _ h2;injection h2
theorem ϱS {P:Program}{w:World}{K:PySem.W.Frag}{es0:List Expr}{x1:Nat}{tp:Pos}{d it:Addr}{o:Obj}{es:Array DictEntry}{ep:Nat} (ho:o.data=.dict es ep) :
  Turn P w K (.Tuple es0 x1 tp) (Itt d o) [it] it (fun i h=>∃ok ov,IsItemIter h it d i es.size ep ok ov) where
 mem:=by simp
 obj:=by
  rintro i h ⟨ok,ov,he⟩ b hb
  have hb:b=it:=by simpa using hb
  subst hb
  exact⟨_,he,fun v z=>by cases z⟩
 keep:=by
  rintro i h h' ⟨ok,ov,he⟩ k
  exact⟨ok,ov,k it (by simp) _ he⟩
 item:=by
  intro X hP hw hK hc i pins s σ H E I hf st hg
  subst hP hw hK
  obtain⟨kvs,kv,e,hx⟩:=hg
  obtain⟨ok,ov,st⟩:=st
  obtain⟨g1,z,lo,xs,r,o',es',ep',h1,h2,h3,h4,h5⟩:=(show ObjOk X.prog X.w H s.heap d (.frz o (.dT kvs)) from I.hok d _ e)
  have eo:o'=o:=by rw[h1] at g1;injection g1
  subst eo
  rw[h3] at ho
  injection ho with e1 e2
  subst e1;subst e2
  obtain⟨q,hq,k1,k2,rv⟩:=ϖK r hx
  obtain⟨f0,f1,f2,f3,f4,f5⟩:=hf it (by simp)
  have hen:es'[i]?=some (entryOfKey (tupleKind (ϖV X.prog X.w)) q):=by rw[← Array.getElem?_toList,h4,List.getElem?_map,hq];rfl
  refine ϲt st ⟨o',h1,h2,h3⟩ hen fun h' st' ht hk'=>⟨_,rfl,?_⟩
  refine wpAny_letOwnedTupleGo_items st' fun h2' st2 sb=>?_
  replace sb:Heap.SameBut it h' h2':=sb
  have hil:it < s.heap.objs.size:=Heap.lt_size st
  have hp0:H s.heap.objs.size=none:=I.hok.fresh (Nat.le_refl _)
  have ht2:h2'.get? s.heap.objs.size=some { cls:=.type "tuple",data:=.seq #[.ref q.2.1,q.2.2] }:=(sb.2 _ (Nat.ne_of_gt hil)).trans ht
  have I1:Inv X pins σ (upd H s.heap.objs.size (.tup [.ref q.2.1,kv.2])) { s with heap:=s.heap.push { cls:=.type "tuple",data:=.seq #[.ref q.2.1,q.2.2] } }:=
   I.laid (t':=s.toks) (fun b v q=>Heap.get?_push_of_some _ q) (Nat.le_refl _) ⟨by show 2≤sizeLine;decide,[.ref q.2.1,q.2.2],.cons rfl (.cons rv .nil),⟨_,Heap.get?_push_size _ rfl,rfl,_,rfl⟩⟩
  have off:(upd H s.heap.objs.size (.tup [.ref q.2.1,kv.2])) it=none:=by rw[ϖs (Nat.ne_of_lt hil)];exact f0
  have I2:Inv X pins σ (upd H s.heap.objs.size (.tup [.ref q.2.1,kv.2])) { s with heap:=h2' }:=Inv.turned (s:={ s with heap:=s.heap.push { cls:=.type "tuple",data:=.seq #[.ref q.2.1,q.2.2] } }) (t':=s.toks) I1 (fun b u n1 q'=>by
   replace q':(s.heap.push { cls:=.type "tuple",data:=.seq #[.ref q.2.1,q.2.2] }).get? b=some u:=q'
   rcases Heap.get?_push_cases q' with⟨z,z'⟩|q''
   ·subst z;subst z';exact ht2
   ·exact(sb.2 b n1).trans (hk' b u n1 q'')) off f1 f3 f4 f5
  refine⟨.ref s.heap.objs.size,_,I2,rfl,⟨_,q.2.1,kv.1,kv.2,hp0,rfl,k2,rfl,fun ws hw=>by rw[ϵ9 hw e];exact hx⟩,⟨_,_,st2⟩,fun b hb=>?_⟩
  have hb:b=it:=by simpa using hb
  subst hb
  exact off
 done:=by
  intro X hP hw hK hc i pins s σ H E I hf st hg
  subst hP hw hK
  obtain⟨kvs,e,hx⟩:=hg
  obtain⟨ok,ov,st⟩:=st
  obtain⟨g1,z,lo,xs,r,o',es',ep',h1,h2,h3,h4,h5⟩:=(show ObjOk X.prog X.w H s.heap d (.frz o (.dT kvs)) from I.hok d _ e)
  have eo:o'=o:=by rw[h1] at g1;injection g1
  subst eo
  rw[h3] at ho
  injection ho with e1 e2
  subst e1;subst e2
  have hsz:es'.size=kvs.length:=by rw[Paired.length r,← Array.length_toList,h4,List.length_map]
  obtain⟨f0,f1,f2,f3,f4,f5⟩:=hf it (by simp)
  exact rp_end (I.ok.hd hc) st ⟨o',h1,h2,h3⟩ (Array.getElem?_eq_none (by omega)) fun h' eb=>⟨rfl,I.turned (t':=s.toks) (fun b u hb q=>eb b u hb q) f0 f1 f3 f4 f5⟩
 self:=fun _ _ _ _ _ ⟨_,_,st⟩ h=>ϰz st h
section
variable {X:Cx}
end
end L3
namespace L3
open PySem PySem.Spec PyProof.Rows L2 PySem.W
section
variable {X:Cx}
end
end L3
namespace L3
open PySem PySem.Spec PyProof.Rows L2 PySem.W
section
variable {prog:Program}{w:World}{A:Around}{E:Value→Shared→Prop}{s:Shared}
end
section
variable {prog:Program}{w:World}{κ:Type} [DecidableEq κ] {knd:KeyKind prog w κ}{A:Around}{E:Value→Shared→Prop}{s:Shared}
end
section
variable {X:Cx}
end
end L3
namespace L3
open PySem PySem.Spec PyProof.Rows L2 PySem.W
def Itv (d:Addr) (o:Obj):It:=
 ⟨fun i H=>∃kvs kv,H d=some (.frz o (.dK kvs))∧kvs[i]?=some kv,fun i H x H'=>H'=H∧∀kvs,H d=some (.frz o (.dK kvs))→∃kv,kvs[i]?=some kv∧x=kv.2,fun i H=>∃kvs,H d=some (.frz o (.dK kvs))∧kvs.length≤i⟩
theorem ϱ2 {P:Program}{w:World}{K:PySem.W.Frag}{tg:Expr}{d it:Addr}{o:Obj}{es:Array DictEntry}{ep:Nat} (ho:o.data=.dict es ep) :
  Turn P w K tg (Itv d o) [it] it (fun i h=>h.IsValIter it d i es.size ep) where
 mem:=by simp
 obj:=by
  rintro i h ⟨q,e1,c,d⟩ b hb
  have hb:b=it:=by simpa using hb
  subst hb
  exact⟨q,e1,fun v z=>by rw[d] at z;cases z⟩
 keep:=by
  rintro i h h' ⟨q,e1,r⟩ k
  exact⟨q,k it (by simp) q e1,r⟩
 item:=by
  intro X hP hw hK hc i pins s σ H E I hf st hg
  subst hP hw hK
  obtain⟨kvs,kv,e,hx⟩:=hg
  obtain⟨g1,z,lo,vs,r,o',es',ep',h1,h2,h3,h4,h5,h6⟩:=(show ObjOk X.prog X.w H s.heap d (.frz o (.dK kvs)) from I.hok d _ e)
  have eo:o'=o:=by rw[h1] at g1;injection g1
  subst eo
  rw[h3] at ho
  injection ho with e1 e2
  subst e1;subst e2
  have hsz:es'.size=vs.length:=by rw[← h5.length];simp
  obtain⟨q,hq,⟨_,rv⟩⟩:=ϖK r hx
  obtain⟨f0,f1,f2,f3,f4,f5⟩:=hf it (by simp)
  rw[hsz] at st
  refine wpAny_pyNext_values_item (knd:=ϖV X.prog X.w) (k:=q.1) (v:=q.2) st ⟨o',es',h1,h2,h3,h4,h5,h6⟩ hq fun h' st' sb=>?_
  have I1:Inv X pins σ H { s with heap:=h' }:=I.turned (t':=s.toks) (fun b u hb e=>(sb.2 b hb).trans e) f0 f1 f3 f4 f5
  obtain⟨q2,e2,c2,d2⟩:=id st'
  rw[← hsz] at st'
  exact⟨q.2,rfl,ϲ3 (s:={ s with heap:=h' }) e2 c2 d2 (by decide) ⟨kv.2,H,I1,rv,⟨rfl,fun ws hw=>⟨kv,by rw[ϲY hw e];exact hx,rfl⟩⟩,st',fun b hb=>(hf b hb).1⟩⟩
 done:=by
  intro X hP hw hK hc i pins s σ H E I hf st hg
  subst hP hw hK
  obtain⟨kvs,e,hx⟩:=hg
  obtain⟨g1,z,lo,vs,r,o',es',ep',h1,h2,h3,h4,h5,h6⟩:=(show ObjOk X.prog X.w H s.heap d (.frz o (.dK kvs)) from I.hok d _ e)
  have eo:o'=o:=by rw[h1] at g1;injection g1
  subst eo
  rw[h3] at ho
  injection ho with e1 e2
  subst e1;subst e2
  have hsz:es'.size=vs.length:=by rw[← h5.length];simp
  have hvl:kvs.length=vs.length:=r.length
  obtain⟨f0,f1,f2,f3,f4,f5⟩:=hf it (by simp)
  rw[hsz] at st
  exact wpAny_pyNext_values_end (knd:=ϖV X.prog X.w) (I.ok.hd hc) st ⟨o',es',h1,h2,h3,h4,h5,h6⟩ (List.getElem?_eq_none (by omega)) fun h' eb=>⟨rfl,I.turned (t':=s.toks) (fun b u hb q=>eb b u hb q) f0 f1 f3 f4 f5⟩
 self:=fun _ _ _ _ _ st h=>wpAny_pyIter_valiter st h
section
variable {X:Cx}{tg:Expr}
def iVals (to:TE):TI:=fun σ H R=>to σ H fun x H1=>∃d kvs,x=.ref d∧H1 d=some (.dK kvs)∧∀o,R (Itv d o) (upd H1 d (.frz o (.dK kvs)))
theorem ϲ_ {l:Expr}{to:TE}{apos cpos:Pos} (ho:PE X l to) (hbase:attributeBase l "values" X.env (eval l X.env)=eval l X.env:=by rfl) (hline:(apos.endLine == cpos.line)=true:=by rfl) :
  PI X tg (.Call (.Attribute l "values" apos) [] [] cpos) (iVals to):=by
 intro pins s σ H R I h
 refine wpAny_Call_method0_late hbase hline (thn (ho pins s σ H _ I h) fun v s1 ⟨x,H1,I1,r1,q1⟩=>?_)
 obtain⟨d,kvs,e,hd,q⟩:=q1
 subst e
 cases r1
 obtain⟨o,h0,I2⟩:=hold_k I1 hd
 obtain⟨z,lo,vs,r,o',es,ep,h1,h2,h3,h4,h5,h6⟩:=(show ObjOk X.prog X.w H1 s1.heap d (.dK kvs) from I1.hok d _ hd)
 have eo:o'=o:=by rw[h1] at h0;injection h0
 subst eo
 have hsz:es.size=vs.length:=by rw[← h5.length];simp
 have hD:s1.heap.DictOf (ϖV X.prog X.w) d vs:=⟨o',es,ep,h1,h2,h3,h4,h5,h6⟩
 refine⟨"dict","dict.values",PySem.F.plainAttrs_dict,PySem.F.slot_dict_values,PySem.F.type_dict_values,hD.typeIs,fun a ea=>?_,?_⟩
 ·cases ea;exact⟨o',h1,h2.2.1⟩
 refine Calls.callWith_builtin rfl (PySem.evalArgs_none ?_)
 refine call_meetsIn PySem.F.slot_dict_values hD.typeIs PySem.F.entry_dict_values (PySem.F.args_dict_values_1 _) (meets_dict_values (ϖV X.prog X.w) d lo) ⟨⟨vs,hD⟩,?_⟩
 have hD1:(s1.heap.push { cls:=.type "dict_values",data:=.fields #[.ref d] }).DictAt (ϖV X.prog X.w) d vs ep:=⟨o',es,Heap.get?_push_of_some _ h1,h2,h3,h4,h5,h6⟩
 refine wpAny_pyIter_values (s:={ s1 with heap:=s1.heap.push { cls:=.type "dict_values",data:=.fields #[.ref d] } }) (v:=s1.heap.objs.size) (d:=d) ⟨_,Heap.get?_push_size _ rfl,rfl,rfl⟩ hD1 ?_
 have I3:=I2.kept (t':=s1.toks) (h':=s1.heap.push { cls:=.type "dict_values",data:=.fields #[.ref d] }) fun b u e=>Heap.get?_push_of_some _ e
 refine⟨_,[_],_,_,_,rfl,I3.kept (t':=s1.toks) fun b u e=>Heap.get?_push_of_some _ e,ϱ2 h3,⟨_,Heap.get?_push_size _ rfl,rfl,by rw[hsz];rfl⟩,fun b hb=>?_,q o'⟩
 rw[List.mem_singleton.mp hb]
 exact I3.fpOk (Nat.le_refl _) (I3.hok.fresh (Nat.le_refl _))
end
theorem ϵU {d:Addr}{o:Obj}{kvs:List (Key×V)}{g:TG}{tb:TS}{D:Ends}{σ:L2.St}{H:Hp} (Pv:Nat→L2.St→Hp→Prop) (h0:Pv 0 σ H) (hl:∀i σ H,i≤kvs.length→Pv i σ H→H d=some (.frz o (.dK kvs)))
  (hs:∀i k y σ H,kvs[i]?=some (k,y)→Pv i σ H→g y σ H fun σ2 H2=>tb { D with nx:=Pv (i+1),ct:=Pv (i+1),bk:=D.nx } σ2 H2) (hd:∀σ H,Pv kvs.length σ H→D.nx σ H) :
  ∃W:Nat→Nat→L2.St→Hp→Prop,(∃ m,W 0 m σ H)∧∀i m σ H,W i m σ H →
   ((Itv d o).stop i H∧D.nx σ H)∨((Itv d o).go i H∧∃N:L2.St→Hp→Prop,(∀ σ' H',N σ' H'→∃m',m' < m∧W (i+1) m' σ' H')∧∀x H',(Itv d o).yld i H x H'→g x σ H' fun σ2 H2=>tb { D with nx:=N,ct:=N,bk:=D.nx } σ2 H2):=by
 refine⟨fun i m σ H=>m=kvs.length-i∧i≤kvs.length∧Pv i σ H,⟨kvs.length,rfl,Nat.zero_le _,h0⟩,?_⟩
 rintro i m σ H ⟨rfl,hi,p⟩
 have q:=hl i σ H hi p
 by_cases hlt:i < kvs.length
 ·refine .inr ⟨⟨kvs,kvs[i],q,List.getElem?_eq_getElem hlt⟩,Pv (i+1),fun σ' H' p'=>⟨kvs.length-(i+1),by omega,rfl,hlt,p'⟩,fun x H' y=>?_⟩
  obtain⟨rfl,y⟩:=y
  obtain⟨⟨k,z⟩,hk,hx⟩:=y kvs q
  have hx:x=z:=hx
  subst hx
  exact hs i k _ σ _ hk p
 ·have e:i=kvs.length:=by omega
  subst e
  exact .inl ⟨⟨kvs,q,Nat.le_refl _⟩,hd σ H p⟩
theorem ϱb {d:Addr}{o:Obj}{kvs:List (List Key×V)}{g:TG}{tb:TS}{D:Ends}{σ:L2.St}{H:Hp} (Pv:Nat→L2.St→Hp→Prop) (h0:Pv 0 σ H) (hl:∀i σ H,i≤kvs.length→Pv i σ H→H d=some (.frz o (.dT kvs)))
  (hs:∀i k y p b σ H,kvs[i]?=some (k,y)→Pv i σ H→H p=none→H b=some (.tup (k.map kV))→g (.ref p) σ (upd H p (.tup [.ref b,y])) fun σ2 H2=>tb { D with nx:=Pv (i+1),ct:=Pv (i+1),bk:=D.nx } σ2 H2) (hd:∀σ H,Pv kvs.length σ H→D.nx σ H) :
  ∃W:Nat→Nat→L2.St→Hp→Prop,(∃ m,W 0 m σ H)∧∀i m σ H,W i m σ H →
   ((L3.Itt d o).stop i H∧D.nx σ H)∨((L3.Itt d o).go i H∧∃N:L2.St→Hp→Prop,(∀ σ' H',N σ' H'→∃m',m' < m∧W (i+1) m' σ' H')∧∀x H',(L3.Itt d o).yld i H x H'→g x σ H' fun σ2 H2=>tb { D with nx:=N,ct:=N,bk:=D.nx } σ2 H2):=by
 refine⟨fun i m σ H=>m=kvs.length-i∧i≤kvs.length∧Pv i σ H,⟨kvs.length,rfl,Nat.zero_le _,h0⟩,?_⟩
 rintro i m σ H ⟨rfl,hi,p⟩
 have q:=hl i σ H hi p
 by_cases hlt:i < kvs.length
 ·refine .inr ⟨⟨kvs,kvs[i],q,List.getElem?_eq_getElem hlt⟩,Pv (i+1),fun σ' H' p'=>⟨kvs.length-(i+1),by omega,rfl,hlt,p'⟩,fun x H' y=>?_⟩
  obtain⟨p0,b,k,z,hp,rfl,hb,rfl,y⟩:=y
  exact hs i k z p0 b σ H (y kvs q) p hp hb
 ·have e:i=kvs.length:=by omega
  subst e
  exact .inl ⟨⟨kvs,q,Nat.le_refl _⟩,hd σ H p⟩
section
variable {X:Cx}
def ϲv (to:TE):TI:=fun σ H R=>to σ H fun x H1=>∃d o kvs,x=.ref d∧H1 d=some (.frz o (.dT kvs))∧R (L3.Itt d o) H1
theorem ϰU {l:Expr}{to:TE}{apos cpos tp:Pos}{es0:List Expr}{x1:Nat} (ho:PE X l to) (hbase:attributeBase l "items" X.env (eval l X.env)=eval l X.env:=by rfl) (hline:(apos.endLine == cpos.line)=true:=by rfl) :
  PI X (.Tuple es0 x1 tp) (.Call (.Attribute l "items" apos) [] [] cpos) (ϲv to):=by
 intro pins s σ H R I h
 refine wpAny_Call_method0_late hbase hline (thn (ho pins s σ H _ I h) fun v s1 ⟨x,H1,I1,r1,q1⟩=>?_)
 obtain⟨d,o,kvs,e,hd,q⟩:=q1
 subst e
 cases r1
 have I2:=I1
 obtain⟨h0,z,lo,xs,r,o',es,ep,h1,h2,h3,h4,h5⟩:=(show ObjOk X.prog X.w H1 s1.heap d (.frz o (.dT kvs)) from I1.hok d _ hd)
 have eo:o'=o:=by rw[h1] at h0;injection h0
 subst eo
 have rr:RawD d es ep s1.heap:=⟨o',h1,h2,h3⟩
 refine⟨"dict","dict.items",PySem.F.plainAttrs_dict,PySem.F.slot_dict_items,PySem.F.type_dict_items,rr.ty,fun a ea=>?_,?_⟩
 ·cases ea;exact⟨o',h1,h2.2.1⟩
 refine Calls.callWith_builtin rfl (PySem.evalArgs_none ?_)
 refine call_meetsIn PySem.F.slot_dict_items rr.ty PySem.F.entry_dict_items (PySem.F.args_dict_items_1 _) (ϲK lo) ⟨⟨es,ep,rr⟩,?_⟩
 have r1:RawD d es ep (s1.heap.push { cls:=.type "dict_items",data:=.fields #[.ref d] }):=rr.at fun o e=>Heap.get?_push_of_some _ e
 refine ϲx (s:={ s1 with heap:=s1.heap.push { cls:=.type "dict_items",data:=.fields #[.ref d] } }) (v:=s1.heap.objs.size) (d:=d) ⟨_,Heap.get?_push_size _ rfl,rfl,rfl⟩ r1 ?_
 have I3:=I2.kept (t':=s1.toks) (h':=s1.heap.push { cls:=.type "dict_items",data:=.fields #[.ref d] }) fun b u e=>Heap.get?_push_of_some _ e
 refine⟨_,[_],_,_,_,rfl,I3.kept (t':=s1.toks) fun b u e=>Heap.get?_push_of_some _ e,ϱS h3,⟨_,_,Heap.get?_push_size _ rfl⟩,fun b hb=>?_,q⟩
 rw[List.mem_singleton.mp hb]
 exact I3.fpOk (Nat.le_refl _) (I3.hok.fresh (Nat.le_refl _))
def tHold (t:TE):TE:=fun σ H Q=>t σ H fun x H1=>∃d kvs,x=.ref d∧H1 d=some (.dT kvs)∧∀o,Q x (upd H1 d (.frz o (.dT kvs)))
theorem ϵq {e:Expr}{t:TE} (he:PE X e t):PE X e (tHold t):=by
 intro pins s σ H Q I h
 refine thn (he pins s σ H _ I h) fun v s1 ⟨x,H1,I1,r1,d,kvs,e,hd,q⟩=>?_
 obtain⟨o,h0,I2⟩:=hold_t I1 hd
 exact⟨x,_,I2,r1,q o⟩
end
end L3
namespace L3
open PySem PySem.Spec PyProof.Rows L2 PySem.W
section
variable {X:Cx}
end
section
variable {X:Cx}{pins:List (Addr×Obj)}{σ:List (Option V)}{H:Hp}{s:Shared}{a:Addr}
end
end L3
namespace L3
open PySem PySem.Spec PyProof.Rows L2 PySem.W
section
variable {X:Cx}{tg:Expr}
end
section
variable {prog:Program}{w:World}{A:Around}{E:Value→Shared→Prop}{s:Shared}{d:Addr}{es:Array DictEntry}{p:Nat}
end
section
variable {X:Cx}
end
end L3
namespace L3
open PySem PySem.Spec PyProof.Rows L2 PySem.W
section
variable {prog:Program}{w:World}{A:Around}{E:Value→Shared→Prop}{s:Shared}
end
section
variable {X:Cx}
end
end L3
namespace L3
open PySem PySem.Spec PyProof.Rows L2 PySem.W
abbrev PI2:=Int×Int
def lt2 (a b:PI2):Bool:=decide (a.1 < b.1∨(a.1=b.1∧a.2 < b.2))
def pairOf? (h:Heap):Value→Option PI2
 |.ref a=>match h.get? a with
  |some o=>match o.data with
   |.seq xs _=>match xs.toList with
    |[.int x _,.int y _]=>some (x,y)
    |_=>none
   |_=>none
  |none=>none
 |_=>none
def PairAt (h:Heap) (v:Value) (p:PI2):Prop:=∃a o n t u,v=.ref a∧h.get? a=some o∧o.cls=.type "tuple"∧o.data=.seq #[.int p.1 t,.int p.2 u] n
open Classical in
@[reducible] noncomputable def pairKind (h:Heap):KeyKind where
 α:=PI2
 blt:=lt2
 irrefl a:=by unfold lt2;rw[decide_eq_false];rintro (h|⟨_,h⟩)<;>omega
 trans a b c h1 h2:=by
  unfold lt2 at *
  have h1:=of_decide_eq_true h1
  have h2:=of_decide_eq_true h2
  refine decide_eq_true ?_
  omega
 negTrans a b c h:=by
  unfold lt2 at *
  have h:=of_decide_eq_true h
  rw[decide_eq_true_eq,decide_eq_true_eq]
  omega
 total a b h1 h2:=by
  unfold lt2 at *
  have h1:=of_decide_eq_false h1
  have h2:=of_decide_eq_false h2
  obtain⟨a1,a2⟩:=a
  obtain⟨b1,b2⟩:=b
  simp only at h1 h2
  have e1:a1=b1:=by omega
  have e2:a2=b2:=by omega
  rw[e1,e2]
 keyOf:=fun v=>if ∃p,PairAt h v p then pairOf? h v else none
 dflt:=(0,0)
open Classical in
open Classical in
section
variable {prog:Program}{w:World}{A:Around}{E:Value→Shared→Prop}{s:Shared}
end
section
variable {X:Cx}
end
end L3
namespace L3
open PySem PySem.Spec PyProof.Rows L2 PySem.W
section
variable {X:Cx}
end
end L3
namespace L3
open PySem PySem.Spec PyProof.Rows L2
section
variable {X:Cx}
end
end L3
namespace L3
open PySem PySem.Spec PyProof.Rows L2
section
variable {X:Cx}
end
end L3
namespace L3
open PySem PySem.Spec PyProof.Rows L2 PySem.W
section
variable {X:Cx}
theorem ϕ9 {ns:List Int}:∀{its:List Value},Vals (ns.map V.int) its→∀(m:Nat) (u:Value),its[m]?=some u→∃k t,u=.int k t∧ns[m]?=some k:=by
 induction ns with
 |nil=>intro its r m u e;cases r;simp at e
 |cons n ns ih=>
  intro its r m u e
  cases r with
  |cons r1 r2=>
   obtain⟨t,rfl⟩:=r1
   cases m with
   |zero=>simp at e;exact⟨n,t,e.symm,rfl⟩
   |succ m=>exact ih r2 m u (by simpa using e)
end
end L3
namespace L3
open PySem PySem.Spec PyProof.Rows L2 PySem.W
section
variable {prog:Program}{w:World}{A:Around}{E:Value→Shared→Prop}{s:Shared}
variable {z TI TO i1 i2:Addr}{f1 f2:List Addr}{xs ys:Array Value}{S1 S2:Nat→Heap→Prop}
end
section
variable {X:Cx}{pins:List (Addr×Obj)}{σ:List (Option V)}{H:Hp}{s:Shared}{h':Heap}
end
section
variable {prog:Program}{w:World}{A:Around}{E:Value→Shared→Prop}{s:Shared}
end
section
variable {X:Cx}
end
end L3
namespace L3
open PySem PySem.Spec PyProof.Rows L2
end L3
namespace L3
open PySem PySem.Spec PyProof.Rows L2 PySem.W
section
variable {prog:Program}{w:World}{A:Around}{E:Value→Shared→Prop}{s:Shared}{it l:Addr}{items:Array Value}
theorem ϵP:typeLookup (.type "list_reverseiterator") "__len__"=pure none:=by rw[typeLookup_type,builtinLookup_eq_fast];kernel_rfl
theorem ϲV:typeLookup (.type "list_reverseiterator") "__length_hint__"=pure (some (.builtin "list_reverseiterator.__length_hint__")):=by rw[typeLookup_type,builtinLookup_eq_fast];kernel_rfl
abbrev RvAt (it l:Addr) (items:Array Value) (i:Nat) (h:Heap):Prop:=i≤items.size∧h.IsRevIter it l ((items.size:Int)-1-(i:Int))∧h.IsList l items
abbrev RvP (items:Array Value):Nat→Value→Prop:=fun i v=>items[items.size-1-i]?=some v
theorem ϵF {R:Result→Shared→Prop} (hh:A.handled=none) (hne:l≠it) (st:RvAt it l items 0 s.heap) (S:Addr) (hSi:S≠it) (hSl:S≠l) (c₀:Nat) (hS:s.heap.get? S=some { cls:=.type "list",data:=.seq #[] c₀ })
  (hR:∀h' tk acc' c',(∀ b o,b≠S→b≠it→s.heap.get? b=some o→h'.get? b=some o)→h'.get? S=some { cls:=.type "list",dict:=none,data:=.seq acc' c',slots:=#[] }→ItemsOf (RvP items) acc' items.size→R (.ok (.ret .none)) { s with heap:=h',toks:=tk }) (hn:items.size≤sizeLine) :
  wpAny (model prog w) A.in1 (Builtin.List.listExtendWith (.ref S) (.ref it) .none)
   (fun fin s'=>match fin with|.done f=>R (.ok f) s'|.again c'=>c'.quiet=true∧codeAny (model prog w) A c' R s') (fun e s'=>R (.error e) s') s:=by
 have hSf:S∉[it,l]:=by simp only[List.mem_cons,List.not_mem_nil,or_false,not_or];exact⟨hSi,hSl⟩
 have W:=Walks.listRev (prog:=prog) (w:=w) (A:=A.in1) hh it l hne items
 have ty:=st.2.1.typeIs (s:=s)
 unfold Builtin.List.listExtendWith
 refine wpAny_bind (wpAny_typeOf (T:="list_reverseiterator") ty ?_)
 have h1:Builtin.List.listSameRef (.ref S) (.ref it)=false:=by simp[Builtin.List.listSameRef,hSi]
 rw[if_neg (by rw[h1];decide)]
 refine wpAny_bind (wpAny_pyIter_revIter st.2.1 ?_)
 refine wpAny_bind (wpAny_holding ?_)
 unfold Builtin.List.listLengthHint
 refine wpAny_bind (wpAny_specialOf ty ϵP ?_)
 show wpAny _ A.in1 (specialOf (Value.ref it) (Str.ofString "__length_hint__") >>= _) _ _ _
 refine wpAny_bind (wpAny_specialOf ty ϲV ?_)
 (generalize hid:("list_reverseiterator.__length_hint__":String)=id0;(fail_if_success (clear hid id0));wp_delta;rw[show splitId id0=some ("list_reverseiterator","__length_hint__") from by subst hid;decide +kernel];subst hid)
 refine wpAny_bind (wpAny_isInstance (b:=true) ty (by rw[isSubtype_type];kernel_rfl) ?_)
 refine wpAny_pure ?_
 rw[if_neg (by decide)]
 refine wpAny_pure ⟨plainId_quiet PySem.F.plain_extend_loop _,codeAny_extend_loopS W.toS hn S hSf _ items.size 0 _ #[] c₀ rfl (Nat.zero_le _) st hS (ItemsOf.nil _) fun s' acc' c' hm hS' hacc=>?_⟩
 rw[Moved.eq_with hm]
 refine hR s'.heap s'.toks acc' c' (fun b o hb hi e=>hm.heap b o (fun hmem=>?_) e) hS' hacc
 rcases List.mem_cons.mp hmem with e'|hmem
 ·exact hb e'
 ·exact hi (List.mem_singleton.mp hmem)
theorem ϲ2 {R:Result→Shared→Prop} (hh:A.handled=none) (hne:l≠it) (st:RvAt it l items 0 s.heap) (S:Addr) (hSi:S≠it) (hSl:S≠l) (hS:s.heap.get? S=some { cls:=.type "list",data:=.seq #[] })
  (hR:∀h' tk acc' c',(∀ b o,b≠S→b≠it→s.heap.get? b=some o→h'.get? b=some o)→h'.get? S=some { cls:=.type "list",dict:=none,data:=.seq acc' c',slots:=#[] }→ItemsOf (RvP items) acc' items.size→R (.ok (.ret .none)) { s with heap:=h',toks:=tk }) (hn:items.size≤sizeLine) :
  wpAny (model prog w) A.in1 (Builtin.«list.__init__» ⟨[.ref S,.ref it],[]⟩)
   (fun fin s'=>match fin with|.done f=>R (.ok f) s'|.again c'=>c'.quiet=true∧codeAny (model prog w) A c' R s') (fun e s'=>R (.error e) s') s:=by
 show wpAny _ _ (do let old ← Builtin.List.listItems (.ref S);Builtin.List.listUpdate (.ref S) (fun _=>#[]);letGo old.toList.reverse;Builtin.List.listExtendWith (.ref S) (.ref it) .none) _ _ s
 refine wpAny_bind ?_
 unfold Builtin.List.listItems
 refine wpAny_bind (wpAny_seqItems hS rfl (wpAny_pure ?_))
 show wpAny _ _ (updateSeq S (fun _=>#[]) >>= fun _=>letGo (#[]:Array Value).toList.reverse >>= fun _=>Builtin.List.listExtendWith (.ref S) (.ref it) .none) _ _ s
 refine wpAny_bind (wpAny_updateSeq hS rfl ?_)
 have hS₂:=Heap.get?_update_self (Obj.mapSeq (fun _=>(#[]:Array Value))) hS rfl
 have oth:∀b o,b≠S→s.heap.get? b=some o→(s.heap.update S (Obj.mapSeq (fun _=>(#[]:Array Value)))).get? b=some o:=
  fun b o hb e=>(Heap.get?_update_other _ _ (Ne.symm hb)).trans e
 refine wpAny_bind (wpAny_letGo ?_)
 refine ϵF hh hne ⟨st.1,st.2.1.at fun o e=>oth it o hSi.symm e,st.2.2.at fun o e=>oth l o hSl.symm e⟩ S hSi hSl _ hS₂ (fun h' tk acc' c' hk hS' hacc=>?_) hn
 exact hR h' tk acc' c' (fun b o hb hi e=>hk b o hb hi (oth b o hb e)) hS' hacc
theorem ϡc {Q:Value→Shared→Prop} (hh:A.handled=none) (hne:l≠it) (st:RvAt it l items 0 s.heap) (hn:items.size≤sizeLine)
  (hQ:∀h' tk acc' c',(∀ b o,b≠it→s.heap.get? b=some o→h'.get? b=some o)→h'.get? s.heap.objs.size=some { cls:=.type "list",dict:=none,data:=.seq acc' c',slots:=#[] }→ItemsOf (RvP items) acc' items.size→Q (.ref s.heap.objs.size) { s with heap:=h',toks:=tk }) :
  wpAny (model prog w) A (call (.type "list") [.ref it]) Q E s:=by
 refine callType_codes (Q₁:=fun obj s₁=>obj=.ref s.heap.objs.size∧s₁={ s with heap:=s.heap.push { cls:=.type "list",data:=.seq #[] } }) PySem.F.called_list (PySem.F.typeCall_list_1 _) PySem.F.entry_list_init
  (code_list_new _ ⟨rfl,rfl⟩) fun obj s₁ h₁=>?_
 obtain⟨rfl,rfl⟩:=h₁
 have hS:(s.heap.push { cls:=.type "list",data:=.seq #[] }).get? s.heap.objs.size=some { cls:=.type "list",data:=.seq #[] }:=Heap.get?_push_size _ rfl
 obtain⟨oi,ei,_⟩:=id st.2.1
 obtain⟨ol,el,_⟩:=id st.2.2
 refine⟨⟨_,hS,rfl⟩,PySem.F.args_list_init_2 _ _,ϲ2 (A:=A.in1) hh hne ⟨st.1,st.2.1.at fun o e=>Heap.get?_push_of_some _ e,st.2.2.at fun o e=>Heap.get?_push_of_some _ e⟩ _ (Nat.ne_of_gt (Heap.lt_size ei)) (Nat.ne_of_gt (Heap.lt_size el)) hS (fun h' tk acc' c' hk hS' hacc=>?_) hn⟩
 exact⟨rfl,hQ h' tk acc' c' (fun b o hb e=>hk b o (Nat.ne_of_lt (Heap.lt_size e)) hb (Heap.get?_push_of_some _ e)) hS' hacc⟩
end
section
variable {X:Cx}
theorem ϱm:bootBuiltins "reversed"=some (.type "reversed"):=by decide +kernel
theorem ϵM:bootBuiltins "list"=some (.type "list"):=by decide +kernel
def tLR (te:TE):TE:=fun σ H Q=>te σ H fun v H1=>∃l ys,v=.ref l∧H1 l=some (.lst ys)∧∀p,H1 p=none→Q (.ref p) (upd H1 p (.lst ys.reverse))
theorem ϱQ {e:Expr}{te:TE}{p p2 pos pos2:Pos} (hc:X.calm=true) (hg:Gl X "list") (hm:X.mg "list"=none) (hg2:Gl X "reversed") (hm2:X.mg "reversed"=none) (hx:PE X e te)
  (hs:starEach [.Call (.Name "reversed" p2) [e] [] pos2] X.env=[(false,eval (.Call (.Name "reversed" p2) [e] [] pos2) X.env)]:=by rfl) (hs2:starEach [e] X.env=[(false,eval e X.env)]:=by rfl) :
  PE X (.Call (.Name "list" p) [.Call (.Name "reversed" p2) [e] [] pos2] [] pos) (tLR te):=by
 intro pins s σ H Q I h
 refine Call_ (ϕ5 I hg hm ϵM (PyProof.Rows.callWith_type1 ?_ hs rfl))
 rw[hs]
 show wpAny _ _ (spliced [(false,eval (.Call (.Name "reversed" p2) [e] [] pos2) X.env)]) _ _ s
 refine Calls.spliced_cons ?_
 let Q':List V→Hp→Prop:=fun vs H1=>match vs with
  |[v]=>∃l ys,v=.ref l∧H1 l=some (.lst ys)∧∀p,H1 p=none→Q (.ref p) (upd H1 p (.lst ys.reverse))
  |_=>False
 refine Call_ (ϕ5 I hg2 hm2 ϱm (PyProof.Rows.callWith_type1 (thn (ϖa hx ϖk hs2 pos2 pins s σ H Q' I h) fun us s1 ⟨vs,H1,I1,r1,q1⟩=>?_) hs2 rfl))
 cases r1 with
 |nil=>exact absurd q1 id
 |cons r rr=>
  cases rr with
  |cons _ _=>exact absurd q1 id
  |nil=>
   obtain⟨l,ys,rfl,hl,q⟩:=q1
   cases r
   obtain⟨its,rv,pL,hz⟩:=I1.list (SqL.of hl)
   have hlen:=rv.length
   have ll:l < s1.heap.objs.size:=by obtain⟨o,e,_⟩:=pL.isList;exact Heap.lt_size e
   refine call_reversed_list pL.isList ?_
   refine Calls.spliced_nil ?_
   have hit:(s1.heap.push (revObj l ((its.toArray.size:Int)-1))).IsRevIter s1.heap.objs.size l ((its.toArray.size:Int)-1-((0:Nat):Int)):=by
    have e0:(its.toArray.size:Int)-1-((0:Nat):Int)=(its.toArray.size:Int)-1:=by omega
    rw[e0];exact⟨_,Heap.get?_push_size _ rfl,rfl,rfl⟩
   refine ϡc (items:=its.toArray) (l:=l) (I1.ok.hd hc) (Nat.ne_of_lt ll) ⟨Nat.zero_le _,hit,pL.isList.at fun o e=>Heap.get?_push_of_some _ e⟩ (by simp;omega) fun h' tk acc c kp e' itm=>?_
   have hsz:(s1.heap.push (revObj l ((its.toArray.size:Int)-1))).objs.size=s1.heap.objs.size+1:=Heap.size_push ..
   refine⟨.ref _,_,I1.laid (t':=tk) (o:=.lst ys.reverse) (fun b u z=>kp b u (Nat.ne_of_lt (Heap.lt_size z)) (Heap.get?_push_of_some _ z)) (by rw[hsz];omega) ⟨by rw[List.length_reverse];exact hz,acc.toList,c,ϱ0 (by rw[Array.length_toList,itm.1,List.length_reverse,hlen];simp) fun i u y e1 e2=>?_,by rw[Array.toArray_toList];exact e'⟩,rfl,q _ (I1.hok.fresh (by rw[hsz];omega))⟩
   have hu:=itm.2 i u (by rw[← Array.getElem?_toList];exact e1)
   have hi:i < ys.length:=by
    have:=(List.getElem?_eq_some_iff.mp e2).1
    rwa [List.length_reverse] at this
   rw[List.getElem?_reverse hi] at e2
   obtain⟨u',hu',ru⟩:=rv.get e2
   have hsize:its.toArray.size=ys.length:=by simp[hlen]
   replace hu:its.toArray[its.toArray.size-1-i]?=some u:=hu
   rw[hsize] at hu
   have hu2:its[ys.length-1-i]?=some u:=by simpa using hu
   rw[hu2] at hu'
   injection hu' with hu'
   rw[hu'];exact ru
end
end L3
namespace L3
open PySem PySem.Spec PyProof.Rows L2
theorem kPI {X:Cx}{K:PySem.W.Frag}{tg it:Expr} (f:PySem.W.Frag→TI) (h:PI X tg it (f X.K)) (e:X.K=K:=by rfl):PI X tg it (f K):=e▸h
theorem kPE {X:Cx}{K:PySem.W.Frag}{ex:Expr} (f:PySem.W.Frag→TE) (h:PE X ex (f X.K)) (e:X.K=K:=by rfl):PE X ex (f K):=e▸h
theorem kPG {X:Cx}{K:PySem.W.Frag}{tg:Expr} (f:PySem.W.Frag→TG) (h:PG X tg (f X.K)) (e:X.K=K:=by rfl):PG X tg (f K):=e▸h
theorem ϕS {X:Cx}{K:PySem.W.Frag}{f:Value} (r:PySem.W.Frag→List V→Hp→VK→Prop) (h:ϕ_ X f (r X.K)) (e:X.K=K:=by rfl):ϕ_ X f (r K):=e▸h
def rLo (K:PySem.W.Frag):List V→Hp→VK→Prop:=fun xs H Q=>∃p ys,xs=[.ref p]∧(SqL K H p ys∨SqT K H p ys)∧∀l,H l=none→Q (.ref l) (upd H l (.lst ys))
def rIsX (K:PySem.W.Frag):List V→Hp→VK→Prop:=fun xs H Q=>∃x C y u b,xs=[.ref x,y]∧H x=some (Exc x C)∧XCls K C∧clsV y=some u∧PySem.W.kitOne K (.ref C) u=some b∧Q (.bl b) H
end L3
namespace My
open PySem PySem.Spec PyProof.Rows L2 L3 PySem.Challenge
open PySem.W (nsIn codeIn keepIn fnOf mg_of mg_none_of findIn mroIn kitOne Frag)
def top (i:Nat):Stmt:=pw_earlyscribe_k72_too_many_rooms.main.body.getD i (.Pass ⟨0,0,0,0⟩)
end My
lay_quick PySem.Challenge.pw_earlyscribe_k72_too_many_rooms
namespace My
open PySem PySem.W PyProof.Rows L2 L3 PySem.Challenge
abbrev fob (x:Str) (st:Stmt) (oc:Value) (od:Option Addr) (kV dc pm:Value) (an:Option Addr) (cd ct:Value) (sl:Array (Option Value)):Obj:=⟨oc,od,.func (fnOf x x (ϖC st) (ϖB st) (ϖm st) .none kV dc pm an cd ct),sl⟩
abbrev de (P:Params) (x:Str) (t:Tok) (v:Value):DictEntry:=⟨PySem.PyData.keyHash P x,.str x t,v⟩
abbrev cob (x:Str) (a b c:Tok) (l n:Int) (r r2 v1 v2 v3 v4:Value) (n6:Int) (c2:Tok):Obj:=⟨.type "code",none,.fields #[.str x a,.str x b,.str "/claim/cut.py" c,.int l 0,.int n 0,.int 0 0,.int 0 0,.int 3 0,r,.bool true,.int 181 0,r2,v1,v2,v3,v4,.int n6 0,.int l 0,.str "/claim/cut.py" c2],#[]⟩
noncomputable def ko2 (P:Params):Obj:=⟨.none,none,(.dict #[] 0),#[]⟩
noncomputable def ko3 (P:Params):Obj:=⟨(.type "dict"),none,(.dict #[de P "__name__" 165 (.str "law_earlyscribe_k72_too_many_rooms" 603),de P "__doc__" 166 .none,de P "__package__" 167 .none,de P "__loader__" 168 (.builtin "__main__.__loader__#opaque"),de P "__spec__" 169 .none,de P "__annotations__" 170 (.ref 6),de P "__builtins__" 171 (.ref 4),de P "__file__" 173 (.str "/claim/cut.py" 172),de P "__cached__" 174 .none,de P "ScribeError" 206 (.ref 24),de P "NoWay" 222 (.ref 37),de P "NoRoom" 238 (.ref 49),de P "NotPlain" 254 (.ref 61),de P "OtherSigns" 270 (.ref 73),de P "TooMany" 286 (.ref 85),de P "TwoWays" 311 (.ref 104),de P "NeverPlain" 338 (.ref 123),de P "NoText" 354 (.ref 135),de P "SIGNS" 356 (.int 0 355),de P "ROOMS" 358 (.int 1 357),de P "BEGINS" 360 (.int 2 359),de P "STEPS" 362 (.int 3 361),de P "ENDS" 364 (.int 4 363),de P "OUT_OF" 368 (.int 0 367),de P "INTO" 370 (.int 3 369),de P "places_at" 381 (.ref 144),de P "traces_from" 399 (.ref 151),de P "traces_from_begins" 406 (.ref 158),de P "traces_to_ends" 413 (.ref 165),de P "trail_of" 425 (.ref 172),de P "MOST_ROOMS_WITH_CHOICES" 429 (.int 8 428),de P "PLACES" 431 (.int 1 430),de P "WORDS" 433 (.int 2 432),de P "refuse_many_rooms" 440 (.ref 179),de P "two_of_each" 451 (.ref 186),de P "doubled_marks" 457 (.ref 191),de P "places_by_sign" 463 (.ref 196),de P "doubled_steps" 478 (.ref 203),de P "doubled_of" 488 (.ref 210),de P "behind_one_another" 496 (.ref 217),de P "words_ahead" 508 (.ref 224),de P "words_behind" 520 (.ref 231),de P "are_apart" 528 (.ref 238),de P "way_apart_by_begin" 540 (.ref 245),de P "trail_from_begin" 549 (.ref 252),de P "way_apart_by_step" 565 (.ref 259),de P "way_apart_by_end" 577 (.ref 266),de P "way_apart" 587 (.ref 273),de P "single_way" 593 (.ref 278),de P "two_ways" 602 (.ref 285),de P "_law_cell_at" 612 (.ref 292),de P "_law_mixed" 621 (.ref 299),de P "_law_copy" 628 (.ref 306),de P "_law_alone" 634 (.ref 311),de P "law" 654 (.ref 318)] 55),#[]⟩
noncomputable def ko23 (P:Params):Obj:=⟨(.type "dict"),none,(.dict #[de P "__module__" 196 (.str "earlyscribe.errors" 187),de P "__firstlineno__" 200 (.int 2 199),de P "__static_attributes__" 201 (.ref 22),de P "__weakref__" 203 (.ref 25),de P "__doc__" 204 .none] 3),#[]⟩
noncomputable def ko24 (P:Params):Obj:=⟨(.type "type"),none,(.cls ⟨"ScribeError",[(.type "ValueError")],[(.ref 24),(.type "ValueError"),(.type "Exception"),(.type "BaseException"),(.type "object")],23,"ScribeError",true,[],[(.ref 37),(.ref 49),(.ref 61),(.ref 73),(.ref 85),(.ref 104),(.ref 123),(.ref 135)],false,none,false⟩),#[(some (.ref 15)),none,(some (.str "ScribeError" 189)),(some (.str "ScribeError" 197)),(some (.builtin "ValueError.__new__")),(some (.bool true))]⟩
noncomputable def ko36 (P:Params):Obj:=⟨(.type "dict"),none,(.dict #[de P "__module__" 214 (.str "earlyscribe.errors" 187),de P "__firstlineno__" 218 (.int 4 217),de P "__static_attributes__" 219 (.ref 35),de P "__doc__" 220 .none] 2),#[]⟩
noncomputable def ko37 (P:Params):Obj:=⟨(.type "type"),none,(.cls ⟨"NoWay",[(.ref 24)],[(.ref 37),(.ref 24),(.type "ValueError"),(.type "Exception"),(.type "BaseException"),(.type "object")],36,"NoWay",true,[],[],false,none,false⟩),#[(some (.ref 28)),none,(some (.str "NoWay" 207)),(some (.str "NoWay" 215)),(some (.builtin "ValueError.__new__")),(some (.bool true))]⟩
noncomputable def ko48 (P:Params):Obj:=⟨(.type "dict"),none,(.dict #[de P "__module__" 230 (.str "earlyscribe.errors" 187),de P "__firstlineno__" 234 (.int 6 233),de P "__static_attributes__" 235 (.ref 47),de P "__doc__" 236 .none] 2),#[]⟩
noncomputable def ko49 (P:Params):Obj:=⟨(.type "type"),none,(.cls ⟨"NoRoom",[(.ref 24)],[(.ref 49),(.ref 24),(.type "ValueError"),(.type "Exception"),(.type "BaseException"),(.type "object")],48,"NoRoom",true,[],[],false,none,false⟩),#[(some (.ref 40)),none,(some (.str "NoRoom" 223)),(some (.str "NoRoom" 231)),(some (.builtin "ValueError.__new__")),(some (.bool true))]⟩
noncomputable def ko60 (P:Params):Obj:=⟨(.type "dict"),none,(.dict #[de P "__module__" 246 (.str "earlyscribe.errors" 187),de P "__firstlineno__" 250 (.int 8 249),de P "__static_attributes__" 251 (.ref 59),de P "__doc__" 252 .none] 2),#[]⟩
noncomputable def ko61 (P:Params):Obj:=⟨(.type "type"),none,(.cls ⟨"NotPlain",[(.ref 24)],[(.ref 61),(.ref 24),(.type "ValueError"),(.type "Exception"),(.type "BaseException"),(.type "object")],60,"NotPlain",true,[],[],false,none,false⟩),#[(some (.ref 52)),none,(some (.str "NotPlain" 239)),(some (.str "NotPlain" 247)),(some (.builtin "ValueError.__new__")),(some (.bool true))]⟩
noncomputable def ko72 (P:Params):Obj:=⟨(.type "dict"),none,(.dict #[de P "__module__" 262 (.str "earlyscribe.errors" 187),de P "__firstlineno__" 266 (.int 10 265),de P "__static_attributes__" 267 (.ref 71),de P "__doc__" 268 .none] 2),#[]⟩
noncomputable def ko73 (P:Params):Obj:=⟨(.type "type"),none,(.cls ⟨"OtherSigns",[(.ref 24)],[(.ref 73),(.ref 24),(.type "ValueError"),(.type "Exception"),(.type "BaseException"),(.type "object")],72,"OtherSigns",true,[],[],false,none,false⟩),#[(some (.ref 64)),none,(some (.str "OtherSigns" 255)),(some (.str "OtherSigns" 263)),(some (.builtin "ValueError.__new__")),(some (.bool true))]⟩
noncomputable def ko84 (P:Params):Obj:=⟨(.type "dict"),none,(.dict #[de P "__module__" 278 (.str "earlyscribe.errors" 187),de P "__firstlineno__" 282 (.int 12 281),de P "__static_attributes__" 283 (.ref 83),de P "__doc__" 284 .none] 2),#[]⟩
noncomputable def ko85 (P:Params):Obj:=⟨(.type "type"),none,(.cls ⟨"TooMany",[(.ref 24)],[(.ref 85),(.ref 24),(.type "ValueError"),(.type "Exception"),(.type "BaseException"),(.type "object")],84,"TooMany",true,[],[],false,none,false⟩),#[(some (.ref 76)),none,(some (.str "TooMany" 271)),(some (.str "TooMany" 279)),(some (.builtin "ValueError.__new__")),(some (.bool true))]⟩
noncomputable def ko103 (P:Params):Obj:=⟨(.type "dict"),none,(.dict #[de P "__module__" 294 (.str "earlyscribe.errors" 187),de P "__firstlineno__" 298 (.int 14 297),de P "__init__" 306 (.ref 101),de P "__static_attributes__" 308 (.ref 102),de P "__doc__" 309 .none] 2),#[]⟩
noncomputable def ko104 (P:Params):Obj:=⟨(.type "type"),none,(.cls ⟨"TwoWays",[(.ref 24)],[(.ref 104),(.ref 24),(.type "ValueError"),(.type "Exception"),(.type "BaseException"),(.type "object")],103,"TwoWays",true,[],[],false,none,false⟩),#[(some (.ref 88)),none,(some (.str "TwoWays" 287)),(some (.str "TwoWays" 295)),(some (.builtin "ValueError.__new__")),(some (.bool true))]⟩
noncomputable def ko122 (P:Params):Obj:=⟨(.type "dict"),none,(.dict #[de P "__module__" 319 (.str "earlyscribe.errors" 187),de P "__firstlineno__" 323 (.int 19 322),de P "__init__" 332 (.ref 120),de P "__static_attributes__" 335 (.ref 121),de P "__doc__" 336 .none] 2),#[]⟩
noncomputable def ko123 (P:Params):Obj:=⟨(.type "type"),none,(.cls ⟨"NeverPlain",[(.ref 24)],[(.ref 123),(.ref 24),(.type "ValueError"),(.type "Exception"),(.type "BaseException"),(.type "object")],122,"NeverPlain",true,[],[],false,none,false⟩),#[(some (.ref 107)),none,(some (.str "NeverPlain" 312)),(some (.str "NeverPlain" 320)),(some (.builtin "ValueError.__new__")),(some (.bool true))]⟩
noncomputable def ko134 (P:Params):Obj:=⟨(.type "dict"),none,(.dict #[de P "__module__" 346 (.str "earlyscribe.errors" 187),de P "__firstlineno__" 350 (.int 25 349),de P "__static_attributes__" 351 (.ref 133),de P "__doc__" 352 .none] 2),#[]⟩
noncomputable def ko135 (P:Params):Obj:=⟨(.type "type"),none,(.cls ⟨"NoText",[(.ref 24)],[(.ref 135),(.ref 24),(.type "ValueError"),(.type "Exception"),(.type "BaseException"),(.type "object")],134,"NoText",true,[],[],false,none,false⟩),#[(some (.ref 126)),none,(some (.str "NoText" 339)),(some (.str "NoText" 347)),(some (.builtin "ValueError.__new__")),(some (.bool true))]⟩
noncomputable def ko143 (P:Params):Obj:=cob "places_at" 371 372 373 35 2 (.ref 138) (.ref 139) .none (.ref 140) (.ref 141) (.ref 142) 379 380
noncomputable def ko144 (P:Params):Obj:=fob "places_at" (top 18) (.type "function") none .none .none (.str "earlyscribe.trims" 365) none (.ref 143) .none #[]
noncomputable def ko150 (P:Params):Obj:=cob "traces_from" 382 383 384 40 4 (.ref 145) (.ref 146) .none (.ref 147) (.ref 148) (.ref 149) 397 398
noncomputable def ko151 (P:Params):Obj:=fob "traces_from" (top 19) (.type "function") none .none .none (.str "earlyscribe.trims" 365) none (.ref 150) .none #[]
noncomputable def ko157 (P:Params):Obj:=cob "traces_from_begins" 400 401 402 57 1 (.ref 152) (.ref 153) .none (.ref 154) (.ref 155) (.ref 156) 404 405
noncomputable def ko158 (P:Params):Obj:=fob "traces_from_begins" (top 20) (.type "function") none .none .none (.str "earlyscribe.trims" 365) none (.ref 157) .none #[]
noncomputable def ko164 (P:Params):Obj:=cob "traces_to_ends" 407 408 409 59 1 (.ref 159) (.ref 160) .none (.ref 161) (.ref 162) (.ref 163) 411 412
noncomputable def ko165 (P:Params):Obj:=fob "traces_to_ends" (top 21) (.type "function") none .none .none (.str "earlyscribe.trims" 365) none (.ref 164) .none #[]
noncomputable def ko171 (P:Params):Obj:=cob "trail_of" 414 415 416 61 4 (.ref 166) (.ref 167) .none (.ref 168) (.ref 169) (.ref 170) 423 424
noncomputable def ko172 (P:Params):Obj:=fob "trail_of" (top 22) (.type "function") none .none .none (.str "earlyscribe.trims" 365) none (.ref 171) .none #[]
noncomputable def ko178 (P:Params):Obj:=cob "refuse_many_rooms" 434 435 436 72 1 (.ref 173) (.ref 174) .none (.ref 175) (.ref 176) (.ref 177) 438 439
noncomputable def ko179 (P:Params):Obj:=fob "refuse_many_rooms" (top 27) (.type "function") none .none .none (.str "earlyscribe.choices" 426) none (.ref 178) .none #[]
noncomputable def ko185 (P:Params):Obj:=cob "two_of_each" 441 442 443 75 1 (.ref 180) (.ref 181) .none (.ref 182) (.ref 183) (.ref 184) 449 450
noncomputable def ko186 (P:Params):Obj:=fob "two_of_each" (top 28) (.type "function") none .none .none (.str "earlyscribe.choices" 426) none (.ref 185) .none #[]
noncomputable def ko190 (P:Params):Obj:=cob "doubled_marks" 452 453 454 83 1 (.ref 187) (.ref 188) .none .none .none (.ref 189) 455 456
noncomputable def ko191 (P:Params):Obj:=fob "doubled_marks" (top 29) (.type "function") none .none .none (.str "earlyscribe.choices" 426) none (.ref 190) .none #[]
noncomputable def ko195 (P:Params):Obj:=cob "places_by_sign" 458 459 460 92 1 (.ref 192) (.ref 193) .none .none .none (.ref 194) 461 462
noncomputable def ko196 (P:Params):Obj:=fob "places_by_sign" (top 30) (.type "function") none .none .none (.str "earlyscribe.choices" 426) none (.ref 195) .none #[]
noncomputable def ko202 (P:Params):Obj:=cob "doubled_steps" 464 465 466 97 1 (.ref 197) (.ref 198) .none (.ref 199) (.ref 200) (.ref 201) 476 477
noncomputable def ko203 (P:Params):Obj:=fob "doubled_steps" (top 31) (.type "function") none .none .none (.str "earlyscribe.choices" 426) none (.ref 202) .none #[]
noncomputable def ko209 (P:Params):Obj:=cob "doubled_of" 479 480 481 108 1 (.ref 204) (.ref 205) .none (.ref 206) (.ref 207) (.ref 208) 486 487
noncomputable def ko210 (P:Params):Obj:=fob "doubled_of" (top 32) (.type "function") none .none .none (.str "earlyscribe.choices" 426) none (.ref 209) .none #[]
noncomputable def ko216 (P:Params):Obj:=cob "behind_one_another" 489 490 491 113 2 (.ref 211) (.ref 212) .none (.ref 213) (.ref 214) (.ref 215) 494 495
noncomputable def ko217 (P:Params):Obj:=fob "behind_one_another" (top 33) (.type "function") none .none .none (.str "earlyscribe.choices" 426) none (.ref 216) .none #[]
noncomputable def ko223 (P:Params):Obj:=cob "words_ahead" 497 498 499 115 2 (.ref 218) (.ref 219) .none (.ref 220) (.ref 221) (.ref 222) 506 507
noncomputable def ko224 (P:Params):Obj:=fob "words_ahead" (top 34) (.type "function") none .none .none (.str "earlyscribe.choices" 426) none (.ref 223) .none #[]
noncomputable def ko230 (P:Params):Obj:=cob "words_behind" 509 510 511 124 2 (.ref 225) (.ref 226) .none (.ref 227) (.ref 228) (.ref 229) 518 519
noncomputable def ko231 (P:Params):Obj:=fob "words_behind" (top 35) (.type "function") none .none .none (.str "earlyscribe.choices" 426) none (.ref 230) .none #[]
noncomputable def ko237 (P:Params):Obj:=cob "are_apart" 521 522 523 133 2 (.ref 232) (.ref 233) .none (.ref 234) (.ref 235) (.ref 236) 526 527
noncomputable def ko238 (P:Params):Obj:=fob "are_apart" (top 36) (.type "function") none .none .none (.str "earlyscribe.choices" 426) none (.ref 237) .none #[]
noncomputable def ko244 (P:Params):Obj:=cob "way_apart_by_begin" 529 530 531 135 2 (.ref 239) (.ref 240) .none (.ref 241) (.ref 242) (.ref 243) 538 539
noncomputable def ko245 (P:Params):Obj:=fob "way_apart_by_begin" (top 37) (.type "function") none .none .none (.str "earlyscribe.choices" 426) none (.ref 244) .none #[]
noncomputable def ko251 (P:Params):Obj:=cob "trail_from_begin" 541 542 543 142 3 (.ref 246) (.ref 247) .none (.ref 248) (.ref 249) (.ref 250) 547 548
noncomputable def ko252 (P:Params):Obj:=fob "trail_from_begin" (top 38) (.type "function") none .none .none (.str "earlyscribe.choices" 426) none (.ref 251) .none #[]
noncomputable def ko258 (P:Params):Obj:=cob "way_apart_by_step" 550 551 552 144 3 (.ref 253) (.ref 254) .none (.ref 255) (.ref 256) (.ref 257) 563 564
noncomputable def ko259 (P:Params):Obj:=fob "way_apart_by_step" (top 39) (.type "function") none .none .none (.str "earlyscribe.choices" 426) none (.ref 258) .none #[]
noncomputable def ko265 (P:Params):Obj:=cob "way_apart_by_end" 566 567 568 155 2 (.ref 260) (.ref 261) .none (.ref 262) (.ref 263) (.ref 264) 575 576
noncomputable def ko266 (P:Params):Obj:=fob "way_apart_by_end" (top 40) (.type "function") none .none .none (.str "earlyscribe.choices" 426) none (.ref 265) .none #[]
noncomputable def ko272 (P:Params):Obj:=cob "way_apart" 578 579 580 162 1 (.ref 267) (.ref 268) .none (.ref 269) (.ref 270) (.ref 271) 585 586
noncomputable def ko273 (P:Params):Obj:=fob "way_apart" (top 41) (.type "function") none .none .none (.str "earlyscribe.choices" 426) none (.ref 272) .none #[]
noncomputable def ko277 (P:Params):Obj:=cob "single_way" 588 589 590 171 3 (.ref 274) (.ref 275) .none .none .none (.ref 276) 591 592
noncomputable def ko278 (P:Params):Obj:=fob "single_way" (top 42) (.type "function") none .none .none (.str "earlyscribe.choices" 426) none (.ref 277) .none #[]
noncomputable def ko284 (P:Params):Obj:=cob "two_ways" 594 595 596 174 1 (.ref 279) (.ref 280) .none (.ref 281) (.ref 282) (.ref 283) 600 601
noncomputable def ko285 (P:Params):Obj:=fob "two_ways" (top 43) (.type "function") none .none .none (.str "earlyscribe.choices" 426) none (.ref 284) .none #[]
noncomputable def ko291 (P:Params):Obj:=cob "_law_cell_at" 605 606 607 182 2 (.ref 286) (.ref 287) .none (.ref 288) (.ref 289) (.ref 290) 610 611
noncomputable def ko292 (P:Params):Obj:=fob "_law_cell_at" (top 45) (.type "function") none .none .none (.str "law_earlyscribe_k72_too_many_rooms" 603) none (.ref 291) .none #[]
noncomputable def ko298 (P:Params):Obj:=cob "_law_mixed" 613 614 615 186 2 (.ref 293) (.ref 294) .none (.ref 295) (.ref 296) (.ref 297) 619 620
noncomputable def ko299 (P:Params):Obj:=fob "_law_mixed" (top 46) (.type "function") none .none .none (.str "law_earlyscribe_k72_too_many_rooms" 603) none (.ref 298) .none #[]
noncomputable def ko305 (P:Params):Obj:=cob "_law_copy" 622 623 624 190 1 (.ref 300) (.ref 301) .none (.ref 302) (.ref 303) (.ref 304) 626 627
noncomputable def ko306 (P:Params):Obj:=fob "_law_copy" (top 47) (.type "function") none .none .none (.str "law_earlyscribe_k72_too_many_rooms" 603) none (.ref 305) .none #[]
noncomputable def ko310 (P:Params):Obj:=cob "_law_alone" 629 630 631 192 1 (.ref 307) (.ref 308) .none .none .none (.ref 309) 632 633
noncomputable def ko311 (P:Params):Obj:=fob "_law_alone" (top 48) (.type "function") none .none .none (.str "law_earlyscribe_k72_too_many_rooms" 603) none (.ref 310) .none #[]
noncomputable def ko317 (P:Params):Obj:=cob "law" 635 636 637 199 1 (.ref 312) (.ref 313) .none (.ref 314) (.ref 315) (.ref 316) 652 653
noncomputable def ko318 (P:Params):Obj:=fob "law" (top 49) (.type "function") none .none .none (.str "law_earlyscribe_k72_too_many_rooms" 603) none (.ref 317) .none #[]
noncomputable def K (P:Params):Frag:=(nat_lit 2,ko2 P)::(nat_lit 3,ko3 P)::(nat_lit 23,ko23 P)::(nat_lit 24,ko24 P)::(nat_lit 36,ko36 P)::(nat_lit 37,ko37 P)::(nat_lit 48,ko48 P)::(nat_lit 49,ko49 P)::(nat_lit 60,ko60 P)::(nat_lit 61,ko61 P)::(nat_lit 72,ko72 P)::(nat_lit 73,ko73 P)::(nat_lit 84,ko84 P)::(nat_lit 85,ko85 P)::(nat_lit 103,ko103 P)::(nat_lit 104,ko104 P)::(nat_lit 122,ko122 P)::(nat_lit 123,ko123 P)::(nat_lit 134,ko134 P)::(nat_lit 135,ko135 P)::(nat_lit 143,ko143 P)::(nat_lit 144,ko144 P)::(nat_lit 150,ko150 P)::(nat_lit 151,ko151 P)::(nat_lit 157,ko157 P)::(nat_lit 158,ko158 P)::(nat_lit 164,ko164 P)::(nat_lit 165,ko165 P)::(nat_lit 171,ko171 P)::(nat_lit 172,ko172 P)::(nat_lit 178,ko178 P)::(nat_lit 179,ko179 P)::(nat_lit 185,ko185 P)::(nat_lit 186,ko186 P)::(nat_lit 190,ko190 P)::(nat_lit 191,ko191 P)::(nat_lit 195,ko195 P)::(nat_lit 196,ko196 P)::(nat_lit 202,ko202 P)::(nat_lit 203,ko203 P)::(nat_lit 209,ko209 P)::(nat_lit 210,ko210 P)::(nat_lit 216,ko216 P)::(nat_lit 217,ko217 P)::(nat_lit 223,ko223 P)::(nat_lit 224,ko224 P)::(nat_lit 230,ko230 P)::(nat_lit 231,ko231 P)::(nat_lit 237,ko237 P)::(nat_lit 238,ko238 P)::(nat_lit 244,ko244 P)::(nat_lit 245,ko245 P)::(nat_lit 251,ko251 P)::(nat_lit 252,ko252 P)::(nat_lit 258,ko258 P)::(nat_lit 259,ko259 P)::(nat_lit 265,ko265 P)::(nat_lit 266,ko266 P)::(nat_lit 272,ko272 P)::(nat_lit 273,ko273 P)::(nat_lit 277,ko277 P)::(nat_lit 278,ko278 P)::(nat_lit 284,ko284 P)::(nat_lit 285,ko285 P)::(nat_lit 291,ko291 P)::(nat_lit 292,ko292 P)::(nat_lit 298,ko298 P)::(nat_lit 299,ko299 P)::(nat_lit 305,ko305 P)::(nat_lit 306,ko306 P)::(nat_lit 310,ko310 P)::(nat_lit 311,ko311 P)::(nat_lit 317,ko317 P)::(nat_lit 318,ko318 P)::[]
def as:List Addr:=[2,3,23,24,36,37,48,49,60,61,72,73,84,85,103,104,122,123,134,135,143,144,150,151,157,158,164,165,171,172,178,179,185,186,190,191,195,196,202,203,209,210,216,217,223,224,230,231,237,238,244,245,251,252,258,259,265,266,272,273,277,278,284,285,291,292,298,299,305,306,310,311,317,318]
end My
lay_quick My.K
namespace My
open PySem PySem.W PyProof.Rows L2 L3 PySem.Challenge
noncomputable def q:Program:=view pw_earlyscribe_k72_too_many_rooms [1,2,3,4,5,6,7,8,9,10,11,12,13,14,16,17,18,19,20,21,22,24,25,26,27,28,29,30,31,32,33,34,35,36,37,38,39,40,41,42,43,45,46,47,48,49]
noncomputable def env:Env:={ scope:=pw_earlyscribe_k72_too_many_rooms.main.scope,locals:=mainNs,globals:=mainNs,cells:=[],code:=(.ref 13),frame:=some 14 }
theorem size (w:World):((boot_heap w.params).isNs mainGlobals && (Array.mk ([]:List GenState)).size == 0,(boot_heap w.params).objs.size,(boot_heap w.params).nsMap mainGlobals "__annotations__")=(true,11,(some (.ref 6))):=by
 rw[PySem.W.Fast.te8920871248978507458]
 kernel_rfl
theorem hl:LeftO pw_earlyscribe_k72_too_many_rooms q [] (fun s=>xlAt q [] s && recOk [] s) (fun s=>as.map s.heap.get?) (fun w=>(K w.params).map fun x=>some x.2) 6010:=by
 refine Hd.left_of (k1:=12) (k2:=1) (k3:=2943) (k4:=2) (n₁:=15) (m₀:=11) (ann:=(some (.ref 6))) (env:=env) (fp:=⟨0,0,0,0⟩) (p1:=⟨0,0,0,0⟩) (p2:=⟨0,0,0,0⟩) (p3:=⟨199,0,224,29⟩) rfl rfl (fun _=>rfl) size rfl ?_
 intro w
 unfold Hd.look q env
 rw[PySem.W.Fast.te15667345088766844465,PySem.W.Fast.te14374325043358763698,PySem.W.Fast.te10110043849684766642,PySem.W.Fast.te14082659384304107361,PySem.W.Fast.te14364793385576792824,PySem.W.Fast.te4187177175401517315,PySem.W.Fast.te5923862056798008813,PySem.W.Fast.te11892475500146522536,PySem.W.Fast.te12754154230045568370,PySem.W.Fast.te18414058476366950282]
 kernel_rfl
end My
namespace My
open PySem PySem.Spec PyProof.Rows L2 L3 PySem.Challenge
open PySem.W (nsIn codeIn keepIn fnOf mg_of mg_none_of findIn mroIn kitOne Frag)
abbrev ϑE:Stmt:=top 18
abbrev ϑj:Stmt:=top 19
abbrev ϖH:Stmt:=top 20
abbrev ϖZ:Stmt:=top 21
abbrev ϑO:Stmt:=top 22
abbrev ϖL:Stmt:=top 27
abbrev ϑe:Stmt:=top 28
abbrev ϖ5:Stmt:=top 29
abbrev ϖY:Stmt:=top 30
abbrev ϖ6:Stmt:=top 31
abbrev ϑt:Stmt:=top 32
abbrev ϖI:Stmt:=top 33
abbrev ϑk:Stmt:=top 34
abbrev ϖ_:Stmt:=top 35
abbrev ϑB:Stmt:=top 36
abbrev ϖG:Stmt:=top 37
abbrev ϖR:Stmt:=top 38
abbrev ϖN:Stmt:=top 39
abbrev ϖQ:Stmt:=top 40
abbrev ϑD:Stmt:=top 41
abbrev ϑu:Stmt:=top 42
abbrev ϑQ:Stmt:=top 43
abbrev ϑl:Stmt:=top 45
abbrev ϑA:Stmt:=top 46
abbrev ϑR:Stmt:=top 47
abbrev ϑC:Stmt:=top 48
abbrev ϰF:Stmt:=top 49
structure Bi (mg:Str→Option Value):Prop where
 ValueError:mg "ValueError"=none
 enumerate:mg "enumerate"=none
 isinstance:mg "isinstance"=none
 len:mg "len"=none
 list:mg "list"=none
 max:mg "max"=none
 min:mg "min"=none
 range:mg "range"=none
 reversed:mg "reversed"=none
 BEGINS:∃t,mg "BEGINS"=some (.int 2 t)
 ENDS:∃t,mg "ENDS"=some (.int 4 t)
 INTO:∃t,mg "INTO"=some (.int 3 t)
 MOST_ROOMS_WITH_CHOICES:∃t,mg "MOST_ROOMS_WITH_CHOICES"=some (.int 8 t)
 OUT_OF:∃t,mg "OUT_OF"=some (.int 0 t)
 PLACES:∃t,mg "PLACES"=some (.int 1 t)
 ROOMS:∃t,mg "ROOMS"=some (.int 1 t)
 SIGNS:∃t,mg "SIGNS"=some (.int 0 t)
 STEPS:∃t,mg "STEPS"=some (.int 3 t)
 WORDS:∃t,mg "WORDS"=some (.int 2 t)
structure Xb (K:Frag) (mg:Str→Option Value) (ϖc ϖu ϖo ϖh ϖe ϖb ϖl ϖf ϖn:Addr):Prop where
 nm_ScribeError:mg "ScribeError"=some (.ref ϖc)
 nm_NoWay:mg "NoWay"=some (.ref ϖu)
 nm_NoRoom:mg "NoRoom"=some (.ref ϖo)
 nm_NotPlain:mg "NotPlain"=some (.ref ϖh)
 nm_OtherSigns:mg "OtherSigns"=some (.ref ϖe)
 nm_TooMany:mg "TooMany"=some (.ref ϖb)
 nm_TwoWays:mg "TwoWays"=some (.ref ϖl)
 nm_NeverPlain:mg "NeverPlain"=some (.ref ϖf)
 nm_NoText:mg "NoText"=some (.ref ϖn)
 own_TooMany:OwnX K mg "TooMany" ϖb
 xc_TooMany:XCls K ϖb
 cl_TooMany:Clause K mg "TooMany" ϖb
 sub_TooMany_TooMany:mroIn K ϖb (.ref ϖb)=some true
 is_TooMany_NoText:kitOne K (.ref ϖb) (.ref ϖn)=some false
 is_TooMany_NeverPlain:kitOne K (.ref ϖb) (.ref ϖf)=some false
 is_TooMany_TwoWays:kitOne K (.ref ϖb) (.ref ϖl)=some false
 is_TooMany_TooMany:kitOne K (.ref ϖb) (.ref ϖb)=some true
 is_TooMany_OtherSigns:kitOne K (.ref ϖb) (.ref ϖe)=some false
 is_TooMany_NotPlain:kitOne K (.ref ϖb) (.ref ϖh)=some false
 is_TooMany_NoRoom:kitOne K (.ref ϖb) (.ref ϖo)=some false
 is_TooMany_NoWay:kitOne K (.ref ϖb) (.ref ϖu)=some false
 is_TooMany_ScribeError:kitOne K (.ref ϖb) (.ref ϖc)=some true
 iv_TooMany_ValueError:kitOne K (.ref ϖb) (.type "ValueError")=some true
local macro_rules|`(tactic| walk_at "side")=>`(tactic| first|exact pz|exact⟨pz,pz⟩|exact .inr ⟨by decide,by decide⟩|exact⟨by omega,by omega⟩|exact .inl ⟨by omega,by omega⟩|exact .inr ⟨by omega,by omega⟩|(show(0:Int) < _;omega)|exact szl (by simp)|exact szl (by omega))
local macro_rules|`(tactic| walk_at "r")=>`(tactic| first|refine⟨_,rfl,?_⟩|refine⟨_,_,rfl,rfl,?_⟩|refine⟨rfl,?_⟩|refine⟨by walk_at "side",?_⟩)
local macro_rules|`(tactic| walk_at "rd")=>`(tactic| repeat walk_at "r")
def ϵ8 (lo hi:Int) (v:V):Prop:=∃n:Int,v=.int n∧lo≤n∧n≤hi
theorem szl' {n:Nat} (h:n≤99999):n < sizeLine:=Nat.lt_of_lt_of_le (Nat.lt_succ_of_le h) (szl (by omega))
def Wd (x:Str):Prop:=x.length≤40∧∀c∈cl x,97≤c∧c≤122
structure OkS (pl:Bool) (s:Scr) (n:Nat):Prop where
 lb:s.begins.length≤n
 ls:s.steps.length≤n
 le:s.ends.length≤n
 mb:∀m∈s.begins,0≤m.1∧m.1 < s.rooms∧Wd m.2
 ms:∀t∈s.steps,0≤t.1∧t.1 < s.rooms∧(∃ c∈cl s.signs,t.2.1=⟨#[c]⟩)∧Wd t.2.2.1∧0≤t.2.2.2∧t.2.2.2 < s.rooms
 me:∀m∈s.ends,0≤m.1∧m.1 < s.rooms∧Wd m.2
 nb:s.begins.Nodup
 ns:s.steps.Nodup
 ne:s.ends.Nodup
 pb:pl=true→s.begins.length≤1
 po:pl=true→(s.steps.map fun t=>(t.1,t.2.1)).Nodup
 pe:pl=true→(s.ends.map (·.1)).Nodup
theorem OkS.mono {pl:Bool}{s:Scr}{n m:Nat} (h:OkS pl s n) (le:n≤m):OkS pl s m:=
 ⟨Nat.le_trans h.lb le,Nat.le_trans h.ls le,Nat.le_trans h.le le,h.mb,h.ms,h.me,h.nb,h.ns,h.ne,h.pb,h.po,h.pe⟩
theorem ϑP {α:Type}{xs:List α}{x:α} (h:xs.Nodup) (hn:x∉xs):(xs++[x]).Nodup:=by
 rw[List.nodup_append]
 refine⟨h,by simp,fun a ha b hb=>?_⟩
 rw[List.mem_singleton] at hb
 subst hb
 intro e;subst e;exact hn ha
theorem OkS.begin {pl:Bool}{g:Str}{r:Int}{B:List Mk}{S:List Stp}{E:List Mk}{n:Nat} (h:OkS pl ⟨g,r,B,S,E⟩ n) {i:Int}{x:Str} (h0:0≤i) (h1:i < r) (hw:Wd x) (hn:(i,x)∉B) (hp:pl=true→B.length=0):OkS pl ⟨g,r,B++[(i,x)],S,E⟩ (n+1):=by
 have ha:=h.mono (Nat.le_succ n)
 refine⟨?_,ha.ls,ha.le,fun m hm=>?_,h.ms,h.me,ϑP h.nb hn,h.ns,h.ne,fun q=>?_,h.po,h.pe⟩
 ·show(B++[(i,x)]).length≤n+1
  have:B.length≤n:=h.lb
  rw[List.length_append,List.length_singleton];omega
 ·rcases List.mem_append.mp hm with hm|hm
  ·exact h.mb m hm
  ·rw[List.mem_singleton.mp hm];exact⟨h0,h1,hw⟩
 ·show(B++[(i,x)]).length≤1
  rw[List.length_append,hp q,List.length_singleton];omega
theorem OkS.end_ {pl:Bool}{g:Str}{r:Int}{B:List Mk}{S:List Stp}{E:List Mk}{n:Nat} (h:OkS pl ⟨g,r,B,S,E⟩ n) {i:Int}{x:Str} (h0:0≤i) (h1:i < r) (hw:Wd x) (hn:(i,x)∉E) (hp:pl=true→∀m∈E,m.1≠i):OkS pl ⟨g,r,B,S,E++[(i,x)]⟩ (n+1):=by
 have ha:=h.mono (Nat.le_succ n)
 refine⟨ha.lb,ha.ls,?_,h.mb,h.ms,fun m hm=>?_,h.nb,h.ns,ϑP h.ne hn,h.pb,h.po,fun q=>?_⟩
 ·show(E++[(i,x)]).length≤n+1
  have:E.length≤n:=h.le
  rw[List.length_append,List.length_singleton];omega
 ·rcases List.mem_append.mp hm with hm|hm
  ·exact h.me m hm
  ·rw[List.mem_singleton.mp hm];exact⟨h0,h1,hw⟩
 ·show((E++[(i,x)]).map (·.1)).Nodup
  rw[List.map_append]
  refine ϑP (h.pe q) fun hm=>?_
  obtain⟨m,hm,e⟩:=List.mem_map.mp hm
  exact hp q m hm e
theorem OkS.step {pl:Bool}{g:Str}{r:Int}{B:List Mk}{S:List Stp}{E:List Mk}{n:Nat} (h:OkS pl ⟨g,r,B,S,E⟩ n) {i j:Int}{y x:Str} (h0:0≤i) (h1:i < r) (hy:∃c∈cl g,y=⟨#[c]⟩) (hw:Wd x) (h2:0≤j) (h3:j < r) (hn:(i,y,x,j)∉S) (hp:pl=true→∀t∈S,¬ (t.1=i∧t.2.1=y)) :
  OkS pl ⟨g,r,B,S++[(i,y,x,j)],E⟩ (n+1):=by
 have ha:=h.mono (Nat.le_succ n)
 refine⟨ha.lb,?_,ha.le,h.mb,fun t ht=>?_,h.me,h.nb,ϑP h.ns hn,h.ne,h.pb,fun q=>?_,h.pe⟩
 ·show(S++[(i,y,x,j)]).length≤n+1
  have:S.length≤n:=h.ls
  rw[List.length_append,List.length_singleton];omega
 ·rcases List.mem_append.mp ht with hm|hm
  ·exact h.ms t hm
  ·rw[List.mem_singleton.mp hm];exact⟨h0,h1,hy,hw,h2,h3⟩
 ·show((S++[(i,y,x,j)]).map fun t=>(t.1,t.2.1)).Nodup
  rw[List.map_append]
  refine ϑP (h.po q) fun hm=>?_
  obtain⟨t,hm,e⟩:=List.mem_map.mp hm
  injection e with e1 e2
  exact hp q t hm ⟨e1,e2⟩
def HI (K:Frag) (H0:Hp) (pb ps pe:Addr) (pl:Bool) (g:Str) (r:Int) (n:Nat) (H:Hp):Prop:=∃B S E xb xs xe,Same H0 H∧H pb=some (.lst xb)∧H ps=some (.lst xs)∧H pe=some (.lst xe) ∧
 Paired (MkV K H) B xb∧Paired (StV K H) S xs∧Paired (MkV K H) E xe∧OkS pl ⟨g,r,B,S,E⟩ n
theorem ϖA {H0 H:Hp}{p:Addr}{o:HO} (g:Same H0 H) (h:H0 p=none):Same H0 (upd H p o):=fun b u q=>by rw[ϖs (ϖw q h)];exact g b u q
theorem HI.mono {K:Frag}{H0 H H':Hp}{pb ps pe:Addr}{pl:Bool}{g:Str}{r:Int}{n m:Nat} (h:HI K H0 pb ps pe pl g r n H) (s:Same H H') (le:n≤m):HI K H0 pb ps pe pl g r m H':=by
 obtain⟨B,S,E,xb,xs,xe,h1,h2,h3,h4,h5,h6,h7,h8⟩:=h
 have g':=Same.grow s
 exact⟨B,S,E,xb,xs,xe,h1.trans s,s _ _ h2,s _ _ h3,s _ _ h4,ϖg (fun _ _=>MkV.mono g') h5,ϖg (fun _ _=>StV.mono g') h6,ϖg (fun _ _=>MkV.mono g') h7,h8.mono le⟩
structure Apart (H0:Hp) (pb ps pe:Addr):Prop where
 nb:H0 pb=none
 ns:H0 ps=none
 ne:H0 pe=none
 bs:pb≠ps
 be:pb≠pe
 se:ps≠pe
def ϰ4 (ns:List Int) (k:Int):Int:=if k < ns.length then (ns[k.toNat]?).getD 0 else 0
def ϱ4 (K:Frag):Sp:=fun vs H Q _=>∃(a:Addr) (ns:List Int) (k:Int),vs=[.ref a,.int k]∧SqL K H a (ns.map V.int)∧0≤k∧Q (.int (ϰ4 ns k)) H
def ScN (K:Frag) (H:Hp) (s:Scr) (v:V) (pb ps pe:Addr):Prop:=∃a xb xs xe,v=.ref a∧SqT K H a [.str s.signs,.int s.rooms,.ref pb,.ref ps,.ref pe]∧H pb=some (.lst xb)∧H ps=some (.lst xs)∧H pe=some (.lst xe) ∧
 Paired (MkV K H) s.begins xb∧Paired (StV K H) s.steps xs∧Paired (MkV K H) s.ends xe
theorem ScN.v {K:Frag}{H:Hp}{s:Scr}{v:V}{pb ps pe:Addr}:ScN K H s v pb ps pe→ScV K H s v pb ps pe
 |⟨a,xb,xs,xe,e,h1,h2,h3,h4,h5,h6,h7⟩=>⟨a,xb,xs,xe,e,h1,SqL.of h2,SqL.of h3,SqL.of h4,h5,h6,h7⟩
def ϰG (K:Frag):Sp:=fun vs H Q _=>∃v s pb ps pe,vs=[v]∧ScV K H s v pb ps pe∧∀v' H' pb' ps' pe',Same H H'→ScN K H' s v' pb' ps' pe'→Apart H pb' ps' pe'→Q v' H'
theorem ϕN (a b:Str):(a++b).length=a.length+b.length:=by
 rw[← ϑY,ϱ8,List.length_append,ϑY,ϑY]
theorem iteB {b:Bool}{A B:Prop} (h1:b=true→A) (h2:b=false→B):if b=true then A else B:=by
 cases b
 ·exact iteF (h2 rfl)
 ·exact iteT (h1 rfl)
theorem HI.addStep {K:Frag}{H0 H:Hp}{pb ps pe:Addr}{pl:Bool}{g:Str}{r:Int}{n:Nat}{B:List Mk}{S:List Stp}{E:List Mk}{xb xs xe:List V}{t:Stp}{v:V} (A:Apart H0 pb ps pe) (h1:Same H0 H) (h2:H pb=some (.lst xb)) (h3:H ps=some (.lst xs)) (h4:H pe=some (.lst xe))
  (h5:Paired (MkV K H) B xb) (h6:Paired (StV K H) S xs) (h7:Paired (MkV K H) E xe) (h8:OkS pl ⟨g,r,B,S++[t],E⟩ n) (hv:StV K H t v):HI K H0 pb ps pe pl g r n (upd H ps (.lst (xs++[v]))):=by
 have gr:=ϰu h3 (.lst (xs++[v]))
 exact⟨B,S++[t],E,xb,xs++[v],xe,ϖA h1 A.ns,by rw[ϖs A.bs];exact h2,ϖd,by rw[ϖs A.se.symm];exact h4,ϖg (fun _ _=>MkV.mono gr) h5,
  ϖD (ϖg (fun _ _=>StV.mono gr) h6) (.cons (StV.mono gr hv) .nil),ϖg (fun _ _=>MkV.mono gr) h7,h8⟩
theorem HI.addEnd {K:Frag}{H0 H:Hp}{pb ps pe:Addr}{pl:Bool}{g:Str}{r:Int}{n:Nat}{B:List Mk}{S:List Stp}{E:List Mk}{xb xs xe:List V}{t:Mk}{v:V} (A:Apart H0 pb ps pe) (h1:Same H0 H) (h2:H pb=some (.lst xb)) (h3:H ps=some (.lst xs)) (h4:H pe=some (.lst xe))
  (h5:Paired (MkV K H) B xb) (h6:Paired (StV K H) S xs) (h7:Paired (MkV K H) E xe) (h8:OkS pl ⟨g,r,B,S,E++[t]⟩ n) (hv:MkV K H t v):HI K H0 pb ps pe pl g r n (upd H pe (.lst (xe++[v]))):=by
 have gr:=ϰu h4 (.lst (xe++[v]))
 exact⟨B,S,E++[t],xb,xs,xe++[v],ϖA h1 A.ne,by rw[ϖs A.be];exact h2,by rw[ϖs A.se];exact h3,ϖd,ϖg (fun _ _=>MkV.mono gr) h5,
  ϖg (fun _ _=>StV.mono gr) h6,ϖD (ϖg (fun _ _=>MkV.mono gr) h7) (.cons (MkV.mono gr hv) .nil),h8⟩
theorem HI.addBegin {K:Frag}{H0 H:Hp}{pb ps pe:Addr}{pl:Bool}{g:Str}{r:Int}{n:Nat}{B:List Mk}{S:List Stp}{E:List Mk}{xb xs xe:List V}{t:Mk}{v:V} (A:Apart H0 pb ps pe) (h1:Same H0 H) (h2:H pb=some (.lst xb)) (h3:H ps=some (.lst xs)) (h4:H pe=some (.lst xe))
  (h5:Paired (MkV K H) B xb) (h6:Paired (StV K H) S xs) (h7:Paired (MkV K H) E xe) (h8:OkS pl ⟨g,r,B++[t],S,E⟩ n) (hv:MkV K H t v):HI K H0 pb ps pe pl g r n (upd H pb (.lst (xb++[v]))):=by
 have gr:=ϰu h2 (.lst (xb++[v]))
 exact⟨B++[t],S,E,xb++[v],xs,xe,ϖA h1 A.nb,ϖd,by rw[ϖs A.bs.symm];exact h3,by rw[ϖs A.be.symm];exact h4,ϖD (ϖg (fun _ _=>MkV.mono gr) h5) (.cons (MkV.mono gr hv) .nil),
  ϖg (fun _ _=>StV.mono gr) h6,ϖg (fun _ _=>MkV.mono gr) h7,h8⟩
theorem ϱA {K:Frag}{H:Hp}{E:List Mk}{xe:List V}{m:Mk} (h:Paired (MkV K H) E xe):Reps K H (E.map dMk) xe:=ϕU (f:=dMk) (F:=MkV K H) (fun _ _ h=>MkV.rep h) h
theorem ϲz {K:Frag}{H:Hp}{E:List Stp}{xe:List V} (h:Paired (StV K H) E xe):Reps K H (E.map dSt) xe:=ϕU (f:=dSt) (F:=StV K H) (fun _ _ h=>StV.rep h) h
theorem ϑZ {α:Type}{xs:List α}{i:Nat}{x:α} (h:xs[i]?=some x):xs.take (i+1)=xs.take i++[x]:=by rw[List.take_add_one,h];rfl
def inR (n:Nat) (i:Int):Prop:=0≤i∧i < n
instance (n:Nat) (i:Int):Decidable (inR n i):=inferInstanceAs (Decidable (_∧_))
def ϲB (s:Scr):Prop:=(∀ m∈s.begins,m.2.length≤100)∧(∀ t∈s.steps,t.2.1.length≤100∧t.2.2.1.length≤100)∧∀m∈s.ends,m.2.length≤100
theorem ϰE:bootBuiltins "ValueError"=some (.type "ValueError"):=by decide +kernel
def GT (H H':Hp):Prop:=∀b xs,Rd H b (.tup xs)→Rd H' b (.tup xs)
theorem GT.trans {H H' H'':Hp} (a:GT H H') (b:GT H' H''):GT H H'':=fun c xs h=>b c xs (a c xs h)
theorem GT.of {H H':Hp} (g:Same H H'):GT H H':=fun b xs h=>by
 rcases h with h|⟨o,h⟩
 ·exact .inl (g _ _ h)
 ·exact .inr ⟨o,g _ _ h⟩
theorem ϰc {H:Hp}{p:Addr}{o:HO} (h:H p=some o) (n1:∀xs,o≠.tup xs) (n2:∀u xs,o≠.frz u (.tup xs)) (o':HO):GT H (upd H p o'):=fun b xs q=>by
 have hne:b≠p:=by
  rintro rfl
  rcases q with q|⟨u,q⟩
  ·rw[h] at q;exact n1 xs (Option.some.inj q)
  ·rw[h] at q;exact n2 u xs (Option.some.inj q)
 unfold Rd
 rw[ϖs hne]
 exact q
theorem ϰM {H:Hp}{p:Addr}{xs:List V} (h:H p=some (.lst xs)) (o':HO):GT H (upd H p o'):=ϰc h (fun _ z=>nomatch z) (fun _ _ z=>nomatch z) o'
theorem GT.seqT {K:Frag}{H H':Hp}{a:Addr}{xs:List V} (g:GT H H') (h:SqT K H a xs):SqT K H' a xs:=by
 rcases h with h|h
 ·exact .inl (g _ _ h)
 ·exact .inr h
structure Bk {κ α:Type} [DecidableEq κ] (R:Hp→α→V→Prop) (key:α→κ) (H0 H:Hp) (d:Addr) (ts:List α) (kvs:List (κ×V)):Prop where
 there:∀k v,valV kvs k=some v→∃l ys,v=.ref l∧H0 l=none∧l≠d∧H l=some (.lst ys)∧Paired (R H) (ts.filter fun t=>decide (key t=k)) ys∧0 < ys.length
 nokey:∀k,valV kvs k=none→ts.filter (fun t=>decide (key t=k))=[]
 inj:∀k k' l,valV kvs k=some (.ref l)→valV kvs k'=some (.ref l)→k=k'
 len:kvs.length≤ts.length
theorem ϑ0 {α:Type} (p:α→Bool) (xs:List α) (x:α):(xs++[x]).filter p=xs.filter p++if p x=true then [x] else []:=by
 rw[List.filter_append]
 congr 1
 by_cases h:p x=true
 ·rw[if_pos h,List.filter_cons_of_pos h];rfl
 ·rw[if_neg h,List.filter_cons_of_neg h];rfl
section
variable {κ α:Type} [DecidableEq κ] {R:Hp→α→V→Prop}{key:α→κ}{H0 H:Hp}{d:Addr}{ts:List α}{kvs:List (κ×V)}
theorem Bk.nil:Bk R key H0 H d [] ([]:List (κ×V)):=⟨fun k v h=>(by cases h),fun _ _=>rfl,fun k k' l h=>(by cases h),Nat.le_refl _⟩
theorem Bk.mono {H':Hp} (mono:∀(H H':Hp) (t:α) (v:V),GT H H'→R H t v→R H' t v) (b:Bk R key H0 H d ts kvs) (g:Same H H'):Bk R key H0 H' d ts kvs:=
 ⟨fun k v h=>let ⟨l,ys,e,h1,h2,h3,h4,h5⟩:=b.there k v h;⟨l,ys,e,h1,h2,g _ _ h3,ϖg (fun _ _=>mono _ _ _ _ (GT.of g)) h4,h5⟩,b.nokey,b.inj,b.len⟩
theorem Bk.put (mono:∀(H H':Hp) (t:α) (v:V),GT H H'→R H t v→R H' t v) (b:Bk R key H0 H d ts kvs) {t:α}{y:V}{l:Addr}{ys:List V} (hv:valV kvs (key t)=some (.ref l)) (hl:H l=some (.lst ys)) (hy:R H t y) :
  Bk R key H0 (upd H l (.lst (ys++[y]))) d (ts++[t]) kvs:=by
 have gr:=ϰM hl (.lst (ys++[y]))
 refine⟨fun k v h=>?_,fun k h=>?_,b.inj,by rw[List.length_append];exact Nat.le_add_right_of_le b.len⟩
 ·obtain⟨l',ys',rfl,h1,h2,h3,h4,h5⟩:=b.there k v h
  rw[ϑ0]
  by_cases hk:key t=k
  ·subst hk
   rw[hv] at h;cases h
   rw[hl] at h3;cases h3
   rw[if_pos (by simp)]
   exact⟨l,ys++[y],rfl,h1,h2,ϖd,ϖD (ϖg (fun _ _=>mono _ _ _ _ gr) h4) (.cons (mono _ _ _ _ gr hy) .nil),by rw[List.length_append];omega⟩
  ·have hne:l'≠l:=fun e=>hk (b.inj _ _ l hv (e▸h))
   rw[if_neg (by simpa using hk),List.append_nil]
   exact⟨l',ys',rfl,h1,h2,by rw[ϖs hne];exact h3,ϖg (fun _ _=>mono _ _ _ _ gr) h4,h5⟩
 ·rw[ϑ0,b.nokey k h]
  by_cases hk:key t=k
  ·subst hk;rw[hv] at h;cases h
  ·rw[if_neg (by simpa using hk)];rfl
theorem Bk.new (mono:∀(H H':Hp) (t:α) (v:V),GT H H'→R H t v→R H' t v) (b:Bk R key H0 H d ts kvs) {t:α}{y:V}{p:Addr}{o od:HO} (hv:valV kvs (key t)=none) (hp0:H0 p=none) (hpd:p≠d) (hd:H d=some od) (n1:∀xs,od≠.tup xs) (n2:∀u xs,od≠.frz u (.tup xs)) (hpn:∀k,valV kvs k≠some (.ref p)) (hp:H p=some (.lst [])) (hy:R H t y) :
  Bk R key H0 (upd (upd H d o) p (.lst [y])) d (ts++[t]) (putK kvs (key t) (.ref p)):=by
 have g1:=ϰc hd n1 n2 o
 have hp1:upd H d o p=some (.lst []):=by rw[ϖs hpd];exact hp
 have gr:=g1.trans (ϰM hp1 (.lst [y]))
 refine⟨fun k v h=>?_,fun k h=>?_,fun k k' l h h'=>?_,?_⟩
 ·rw[ϑ1] at h
  rw[ϑ0]
  by_cases hk:k=key t
  ·subst hk
   rw[if_pos rfl] at h;cases h
   rw[if_pos (by simp),b.nokey _ hv]
   exact⟨p,[y],rfl,hp0,hpd,ϖd,.cons (mono _ _ _ _ gr hy) .nil,Nat.zero_lt_one⟩
  ·rw[if_neg hk] at h
   obtain⟨l',ys',rfl,h1,h2,h3,h4,h5⟩:=b.there k v h
   have hne:l'≠p:=fun e=>hpn k (e▸h)
   rw[if_neg (by simpa using fun e=>hk (Eq.symm e)),List.append_nil]
   exact⟨l',ys',rfl,h1,h2,by rw[ϖs hne,ϖs h2];exact h3,ϖg (fun _ _=>mono _ _ _ _ gr) h4,h5⟩
 ·rw[ϑ1] at h
  by_cases hk:k=key t
  ·rw[if_pos hk] at h;cases h
  ·rw[if_neg hk] at h
   rw[ϑ0,b.nokey k h,if_neg (by simpa using fun e=>hk (Eq.symm e))];rfl
 ·rw[ϑ1] at h h'
  by_cases hk:k=key t
  ·rw[if_pos hk] at h;cases h
   by_cases hk':k'=key t
   ·rw[hk,hk']
   ·rw[if_neg hk'] at h';exact absurd h' (hpn k')
  ·rw[if_neg hk] at h
   by_cases hk':k'=key t
   ·rw[if_pos hk'] at h';cases h';exact absurd h (hpn k)
   ·rw[if_neg hk'] at h';exact b.inj k k' l h h'
 ·have h1:=ϑd kvs (key t) (.ref p)
  have h2:=b.len
  rw[List.length_append,List.length_singleton];omega
end
def ϱu:Sp:=fun vs H Q _=>∃c k:Int,vs=[.int c,.int k]∧∀n:Int,0≤n→n < 2147483587→Q (.int n) H
def ϖE (n:Int) (t:Stp):Int:=if n=0 then t.1 else t.2.2.2
theorem ϲr {n:Int} (h:n=0∨n=3) (t:Stp):atI [V.int t.1,V.str t.2.1,V.str t.2.2.1,V.int t.2.2.2] n=some (V.int (ϖE n t)):=by
 rcases h with rfl|rfl
 ·exact ϖM (j:=0) rfl
 ·exact ϖM (j:=3) rfl
def StL (K:Frag) (H:Hp) (a:Addr) (S:List Stp):Prop:=∃xs,SqL K H a xs∧Paired (StV K H) S xs
def keyP (n:Int) (S:List Stp) (q:Nat):Key:=Sum.inl ((S[q]?).elim 0 (ϖE n))
def qV (q:Nat):V:=.int (q:Int)
def isQ (_:Hp) (q:Nat) (v:V):Prop:=v=.int (q:Int)
def PlD (n:Int) (S:List Stp) (H H':Hp) (v:V):Prop:=∃d kvs,v=.ref d∧H d=none∧H' d=some (.dK kvs)∧Bk isQ (keyP n S) H H' d (List.range S.length) kvs
theorem ϕV (H H':Hp) (q:Nat) (v:V) (_:GT H H') (h:isQ H q v):isQ H' q v:=h
abbrev En:=Int×Nat×Option Nat
def ϖy (T:List En):List Int:=T.map (·.1)
def optN:Option Nat→V
 |none=>.non
 |some q=>.int (q:Int)
def EnV (K:Frag) (H:Hp) (e:En) (kv:Key×V):Prop:=kv.1=Sum.inl e.1∧∃t,kv.2=.ref t∧SqT K H t [.int (e.2.1:Int),optN e.2.2]
def EnOk (M:List Mk) (S:List Stp) (n f:Int) (T:List En) (i:Nat) (e:En):Prop:=
 (e.2.2=none∧∃m,M[e.2.1]?=some m∧m.1=e.1)∨(∃ q t,e.2.2=some q∧S[q]?=some t∧ϖE f t=e.1∧∃j e',j < i∧T[j]?=some e'∧e'.1=ϖE n t∧e'.2.1=e.2.1)
structure TI (M:List Mk) (S:List Stp) (n f:Int) (T:List En):Prop where
 nd:(ϖy T).Nodup
 en:∀i e,T[i]?=some e→EnOk M S n f T i e
theorem ϵZ {α:Type}{xs:List α}{x y:α}{i:Nat} (h:(xs++[x])[i]?=some y):(i=xs.length∧y=x)∨xs[i]?=some y:=by
 by_cases hi:i < xs.length
 ·rw[List.getElem?_append_left hi] at h;exact .inr h
 ·rw[List.getElem?_append_right (by omega)] at h
  have:i-xs.length=0:=by
   by_cases z:i-xs.length=0
   ·exact z
   ·rw[List.getElem?_eq_none (by simp;omega)] at h;cases h
  rw[this] at h
  injection h with h
  exact .inl ⟨by omega,h.symm⟩
theorem ϵ5 {α:Type}{xs:List α}{x y:α}{i:Nat} (h:xs[i]?=some y):(xs++[x])[i]?=some y:=by
 rw[List.getElem?_append_left (List.getElem?_eq_some_iff.mp h).1];exact h
theorem TI.nil {M:List Mk}{S:List Stp}{n f:Int}:TI M S n f []:=⟨by simp[ϖy],fun i e h=>by simp at h⟩
theorem ϑJ (T:List En) (e:En):ϖy (T++[e])=ϖy T++[e.1]:=by unfold ϖy;rw[List.map_append];rfl
theorem TI.snoc {M:List Mk}{S:List Stp}{n f:Int}{T:List En}{e:En} (h:TI M S n f T) (hn:e.1∉ϖy T) (he:EnOk M S n f T T.length e):TI M S n f (T++[e]):=by
 have up:∀i d,EnOk M S n f T i d→EnOk M S n f (T++[e]) i d:=fun i d h=>by
  rcases h with h|⟨q,t,h1,h2,h3,j,d',h4,h5,h6⟩
  ·exact .inl h
  ·exact .inr ⟨q,t,h1,h2,h3,j,d',h4,ϵ5 h5,h6⟩
 refine⟨by rw[ϑJ];exact ϑP h.nd hn,fun i d hd=>?_⟩
 rcases ϵZ hd with⟨rfl,rfl⟩|hd
 ·exact up _ _ he
 ·exact up _ _ (h.en i d hd)
def DoneT (S:List Stp) (n f:Int) (T:List En) (r:Int):Prop:=∀t∈S,ϖE n t=r→ϖE f t∈ϖy T
theorem DoneT.snoc {S:List Stp}{n f:Int}{T:List En}{r:Int}{e:En} (h:DoneT S n f T r):DoneT S n f (T++[e]) r:=fun t ht hr=>by rw[ϑJ];exact List.mem_append_left _ (h t ht hr)
def TrD (K:Frag) (H:Hp) (d:Addr) (T:List En):Prop:=∃kvs,H d=some (.dK kvs)∧Paired (EnV K H) T kvs
def MkL (K:Frag) (H:Hp) (a:Addr) (M:List Mk):Prop:=∃xs,SqL K H a xs∧Paired (MkV K H) M xs
structure TrOk (M:List Mk) (S:List Stp) (n f R:Int) (T:List En):Prop where
 ti:TI M S n f T
 marks:∀m∈M,m.1∈ϖy T
 clo:∀r∈ϖy T,DoneT S n f T r
 bnd:∀r∈ϖy T,0≤r∧r < R
 first:∀m∈M,∃e∈T,e.1=m.1∧e.2.2=none
def KB (d:Addr) (H H':Hp):Prop:=∀b o,b≠d→H b=some o→H' b=some o
theorem KB.same {d:Addr}{A H H':Hp} (k:KB d H H') (g:Same A H) (hd:A d=none):Same A H':=fun b o q=>k b o (ϖw q hd) (g b o q)
theorem KB.then {d:Addr}{H H' H'':Hp} (k:KB d H H') (g:Same H' H''):KB d H H'':=fun b o n q=>g b o (k b o n q)
theorem KB.here {d:Addr}{H H':Hp}{o:HO} (k:KB d H H'):KB d H (upd H' d o):=fun b u n q=>by rw[ϖs n];exact k b u n q
theorem KB.new {d p:Addr}{H H':Hp}{o:HO} (k:KB d H H') (hp:H p=none):KB d H (upd H' p o):=fun b u n q=>by rw[ϖs (ϖw q hp)];exact k b u n q
theorem ϱc:∀(N:Nat) (xs:List Int),xs.Nodup→(∀ x∈xs,0≤x∧x < (N:Int))→xs.length≤N
 |0,[],_,_=>Nat.le_refl _
 |0,x::xs,_,h=>by have:=h x (List.mem_cons_self ..);omega
 |N+1,xs,nd,h=>by
  have:=ϱc N (xs.filter (fun x=>decide (x≠(N:Int)))) (nd.filter _) (fun x hx=>by
   have hx:=List.mem_filter.mp hx
   have h1:=h x hx.1
   have h2:=of_decide_eq_true hx.2
   omega)
  by_cases c:(N:Int)∈xs
  ·have e:xs.length=(xs.erase (N:Int)).length+1:=by rw[List.length_erase_of_mem c];have:=List.length_pos_of_mem c;omega
   have e2:xs.erase (N:Int)=xs.filter (fun x=>decide (x≠(N:Int))):=by rw[List.Nodup.erase_eq_filter nd];congr 1;funext x;by_cases z:x=(N:Int)<;>simp[z]
   rw[e,e2];omega
  ·have e2:xs.filter (fun x=>decide (x≠(N:Int)))=xs:=List.filter_eq_self.mpr fun x hx=>decide_eq_true (fun z=>c (by rw[← z];exact hx))
   rw[e2] at this;omega
def ϑF (n:Int) (S:List Stp) (r:Int):List Nat:=(List.range S.length).filter fun q=>decide (keyP n S q=Sum.inl r)
theorem mem_placesOf {n:Int}{S:List Stp}{r:Int}{q:Nat}:q∈ϑF n S r↔∃t,S[q]?=some t∧ϖE n t=r:=by
 unfold ϑF
 rw[List.mem_filter,List.mem_range,decide_eq_true_eq]
 constructor
 ·rintro⟨h1,h2⟩
  refine⟨S[q],List.getElem?_eq_getElem h1,?_⟩
  unfold keyP at h2
  rw[List.getElem?_eq_getElem h1] at h2
  injection h2
 ·rintro⟨t,h1,h2⟩
  refine⟨(List.getElem?_eq_some_iff.mp h1).1,?_⟩
  unfold keyP
  rw[h1,← h2];rfl
theorem ϰp {H:Hp}:∀{qs:List Nat}{ys:List V},Paired (isQ H) qs ys→ys=qs.map qV
 |[],_,h=>by cases h;rfl
 |q::qs,_,h=>by
  cases h with
  |cons h1 h2=>rw[ϰp h2];unfold isQ at h1;rw[h1];rfl
structure OkR (s:Scr):Prop where
 lb:s.begins.length≤999
 ls:s.steps.length≤19999
 le:s.ends.length≤999
 lr:s.rooms≤999
 mb:∀m∈s.begins,0≤m.1∧m.1 < s.rooms
 ms:∀t∈s.steps,0≤t.1∧t.1 < s.rooms∧0≤t.2.2.2∧t.2.2.2 < s.rooms
 me:∀m∈s.ends,0≤m.1∧m.1 < s.rooms
theorem OkR.side {s:Scr} (h:OkR s) {f:Int} (hf:f=0∨f=3):∀t∈s.steps,0≤ϖE f t∧ϖE f t < s.rooms:=fun t ht=>by
 obtain⟨h1,h2,h3,h4⟩:=h.ms t ht
 rcases hf with rfl|rfl
 ·exact⟨h1,h2⟩
 ·exact⟨h3,h4⟩
inductive Rch (M:List Mk) (S:List Stp) (n f:Int):Int→Prop
 |base {m:Mk} (h:m∈M):Rch M S n f m.1
 |step {t:Stp} (h:t∈S) (r:Rch M S n f (ϖE n t)):Rch M S n f (ϖE f t)
def Use (s:Scr) (r:Int):Prop:=Rch s.begins s.steps 0 3 r∧Rch s.ends s.steps 3 0 r
open Classical in
noncomputable def useL (s:Scr):List Int:=((List.range s.rooms.toNat).map fun k:Nat=>(k:Int)).filter fun r=>decide (Use s r)
open Classical in
def numK:List Int→Nat→List (Key×V)
 |[],_=>[]
 |u::us,k=>(Sum.inl u,.int (k:Int))::numK us (k+1)
def ϰf (us:List Int) (r:Int):Option Nat:=us.idxOf? r
def keptM (us:List Int) (M:List Mk):List Mk:=M.filterMap fun m=>(ϰf us m.1).map fun k=>((k:Int),m.2)
def inUs (us:List Int) (t:Stp):Bool:=(ϰf us t.1).isSome && (ϰf us t.2.2.2).isSome
def newSt (us:List Int) (t:Stp):Stp:=(((ϰf us t.1).getD 0:Nat),t.2.1,t.2.2.1,((ϰf us t.2.2.2).getD 0:Nat))
def keptS (us:List Int) (S:List Stp):List Stp:=(S.filter (inUs us)).map (newSt us)
noncomputable def trimS (s:Scr):Scr:=⟨s.signs,((useL s).length:Int),keptM (useL s) s.begins,keptS (useL s) s.steps,keptM (useL s) s.ends⟩
abbrev keyR (N r:Int):List Key:=[Sum.inl (r / N),Sum.inl (r % N)]
abbrev tupR (N r:Int):HO:=.tup [V.int (r / N),V.int (r % N)]
theorem ϕF {N r r':Int} (h:keyR N r=keyR N r'):r=r':=by
 unfold keyR at h
 injection h with h1 h2
 injection h2 with h2 _
 injection h1 with h1
 injection h2 with h2
 have e1:=Int.emod_add_mul_ediv r N
 have e2:=Int.emod_add_mul_ediv r' N
 rw[h1,h2] at e1
 omega
def RmV (N:Int) (H:Hp) (r:Int) (v:V):Prop:=∃b,v=.ref b∧H b=some (tupR N r)
def MkG (N:Int) (K:Frag) (H:Hp) (m:Mk) (v:V):Prop:=∃b c,∃ys:List V,v=.ref b∧SqT K H b (.ref c::ys)∧H c=some (tupR N m.1)
def StG (N:Int) (K:Frag) (H:Hp) (t:Stp) (v:V):Prop:=∃b c e,∃x y:V,v=.ref b∧SqT K H b [.ref c,x,y,.ref e]∧H c=some (tupR N t.1)∧H e=some (tupR N t.2.2.2)
theorem StG.mono {N:Int}{K:Frag}{H H':Hp}{t:Stp}{v:V} (g:Same H H'):StG N K H t v→StG N K H' t v:=fun⟨b,c,e,x,y,h0,h,h1,h2⟩=>⟨b,c,e,x,y,h0,(Same.grow g).seqT h,g _ _ h1,g _ _ h2⟩
theorem ϰx {N:Int}{H:Hp}{t:Stp}{c e:Addr}{x y:V}{n:Int} (hn:n=0∨n=3) (h1:H c=some (tupR N t.1)) (h2:H e=some (tupR N t.2.2.2)):∃r,atI [V.ref c,x,y,V.ref e] n=some (V.ref r)∧H r=some (tupR N (ϖE n t)):=by
 rcases hn with rfl|rfl
 ·exact⟨c,ϖM (j:=0) rfl,h1⟩
 ·exact⟨e,ϖM (j:=3) rfl,h2⟩
def MkLG (N:Int) (K:Frag) (H:Hp) (a:Addr) (M:List Mk):Prop:=∃xs,SqL K H a xs∧Paired (MkG N K H) M xs
def StLG (N:Int) (K:Frag) (H:Hp) (a:Addr) (S:List Stp):Prop:=∃xs,SqL K H a xs∧Paired (StG N K H) S xs
def ϕB (N n:Int) (S:List Stp) (q:Nat):List Key:=keyR N ((S[q]?).elim 0 (ϖE n))
def PlDP (N n:Int) (S:List Stp) (H H':Hp) (v:V):Prop:=∃d kvs,v=.ref d∧H d=none∧H' d=some (.dT kvs)∧Bk isQ (ϕB N n S) H H' d (List.range S.length) kvs
def ϕ8 (K:Frag):Sp:=fun vs H Q _=>∃a n,vs=[.ref a,.int n]∧(n=0∨n=3)∧((∃ S,StL K H a S∧S.length≤999∧∀v H',Same H H'→PlD n S H H' v→Q v H') ∨
 ∃N S,StLG N K H a S∧S.length≤19999∧∀v H',Same H H'→PlDP N n S H H' v→Q v H')
def EnVP (N:Int) (K:Frag) (H:Hp) (e:En) (kv:List Key×V):Prop:=kv.1=keyR N e.1∧∃t,kv.2=.ref t∧SqT K H t [.int (e.2.1:Int),optN e.2.2]
theorem EnVP.gt {N:Int}{K:Frag}{H H':Hp}{e:En}{kv:List Key×V} (g:GT H H'):EnVP N K H e kv→EnVP N K H' e kv:=fun⟨h1,t,h2,h3⟩=>⟨h1,t,h2,g.seqT h3⟩
def TrDP (N:Int) (K:Frag) (H:Hp) (d:Addr) (T:List En):Prop:=∃kvs,H d=some (.dT kvs)∧Paired (EnVP N K H) T kvs
theorem ϑX {N:Int}{K:Frag}{H:Hp}:∀{T:List En}{kvs:List (List Key×V)}{r:Int},Paired (EnVP N K H) T kvs→(valV kvs (keyR N r)=none↔r∉ϖy T)
 |[],_,r,h=>by cases h;simp[ϖy,ϵT]
 |e::T,_,r,h=>by
  cases h with
  |@cons _ kv _ kvs h1 h2=>
   have ih:=ϑX (r:=r) h2
   by_cases c:e.1=r
   ·rw[ϖ7 (by rw[h1.1,c])]
    simp[ϖy,c]
   ·rw[ϖ2 (by rw[h1.1];exact fun z=>c (ϕF z)),ih]
    unfold ϖy
    rw[List.map_cons,List.mem_cons]
    exact⟨fun z y=>y.elim (fun w=>c w.symm) z,fun z y=>z (.inr y)⟩
theorem ϰe {N:Int}{K:Frag}{H:Hp}:∀{T:List En}{kvs:List (List Key×V)}{r:Int},Paired (EnVP N K H) T kvs→r∈ϖy T→∃(i:Nat) (e:En) (t:Addr),T[i]?=some e∧e.1=r∧valV kvs (keyR N r)=some (.ref t)∧SqT K H t [.int (e.2.1:Int),optN e.2.2]
 |[],_,r,h,hr=>by simp[ϖy] at hr
 |e::T,_,r,h,hr=>by
  cases h with
  |@cons _ kv _ kvs h1 h2=>
   by_cases c:e.1=r
   ·obtain⟨k1,t,k2,k3⟩:=h1
    exact⟨0,e,t,rfl,c,by rw[ϖ7 (by rw[k1,c]),k2],k3⟩
   ·have hr':r∈ϖy T:=by
     unfold ϖy at hr
     rw[List.map_cons,List.mem_cons] at hr
     exact hr.elim (fun z=>absurd z.symm c) id
    obtain⟨i,e',t,k1,k2,k3,k4⟩:=ϰe h2 hr'
    exact⟨i+1,e',t,k1,k2,by rw[ϖ2 (by rw[h1.1];exact fun z=>c (ϕF z))];exact k3,k4⟩
def ϕH (K:Frag):Sp:=fun vs H Q _=>∃N am M as_ S n f R,vs=[.ref am,.ref as_,.int n,.int f]∧MkLG N K H am M∧StLG N K H as_ S∧M.length≤999∧S.length≤19999∧(n=0∨n=3)∧(f=0∨f=3)∧R≤999 ∧
 (∀ m∈M,0≤m.1∧m.1 < R)∧(∀ t∈S,0≤ϖE f t∧ϖE f t < R)∧∀d T H',Same H H'→H d=none→TrDP N K H' d T→TrOk M S n f R T→Q (.ref d) H'
theorem ϱX (N n:Int) (S:List Stp) (r:Int):(List.range S.length).filter (fun q=>decide (ϕB N n S q=keyR N r))=ϑF n S r:=by
 unfold ϑF
 refine List.filter_congr fun q _=>decide_eq_decide.mpr ?_
 unfold ϕB keyP
 exact⟨fun h=>by rw[ϕF h],fun h=>by injection h with h;rw[h]⟩
theorem ϲu {N n:Int}{S:List Stp}{H0 H:Hp}{pd l0:Addr}{kvs:List (List Key×V)} (bk:Bk isQ (ϕB N n S) H0 H pd (List.range S.length) kvs) (r:Int) (e0:H l0=some (.lst [])) :
  ∃la,(valV kvs (keyR N r)).getD (.ref l0)=.ref la∧H la=some (.lst ((ϑF n S r).map qV))∧(la=l0∨(H0 la=none∧∃k,valV kvs k=some (.ref la))):=by
 rw[← ϱX N]
 cases hv:valV kvs (keyR N r) with
 |none=>
  refine⟨l0,rfl,?_,.inl rfl⟩
  rw[bk.nokey _ hv];exact e0
 |some v=>
  obtain⟨l,ys,rfl,h1,h2,h3,h4,h5⟩:=bk.there _ _ hv
  refine⟨l,rfl,?_,.inr ⟨h1,_,hv⟩⟩
  rw[h3,ϰp h4]
theorem TrDP.put {N:Int}{K:Frag}{H:Hp}{d p:Addr}{T:List En}{kvs:List (List Key×V)}{e:En} (hkd:H d=some (.dT kvs)) (hp:Paired (EnVP N K H) T kvs) (hn:e.1∉ϖy T) (et:H p=some (.tup [.int (e.2.1:Int),optN e.2.2])) :
  TrDP N K (upd H d (.dT (putK kvs (keyR N e.1) (.ref p)))) d (T++[e]):=by
 have gt:GT H (upd H d (.dT (putK kvs (keyR N e.1) (.ref p)))):=ϰc hkd (fun _ z=>nomatch z) (fun _ _ z=>nomatch z) _
 refine⟨_,ϖd,?_⟩
 have e1:=ϕ3 (.ref p) ((ϑX hp).mpr hn)
 generalize upd H d (.dT (putK kvs (keyR N e.1) (.ref p)))=H' at gt⊢
 rw[e1]
 exact ϖD (ϖg (fun _ _=>EnVP.gt gt) hp) (.cons ⟨rfl,p,rfl,gt.seqT (SqT.of et)⟩ .nil)
theorem ϵa {N:Int}{K:Frag}{H:Hp}:∀{T:List En}{kvs:List (List Key×V)}{bs:List Addr},Paired (EnVP N K H) T kvs→Paired (fun (kv:List Key×V) b=>H b=some (.tup (kv.1.map kV))) kvs bs→Paired (RmV N H) (ϖy T) (bs.map V.ref)
 |[],_,_,h,g=>by cases h;cases g;exact .nil
 |e::T,_,_,h,g=>by
  cases h with
  |cons h1 h2=>
   cases g with
   |cons g1 g2=>
    rw[h1.1] at g1
    exact .cons ⟨_,rfl,g1⟩ (ϵa h2 g2)
def dRm (N r:Int):D:=.tup [.int (r / N),.int (r % N)]
theorem RmV.rep {N:Int}{K:Frag}{H:Hp}{r:Int}{v:V}:RmV N H r v→Rep K H (dRm N r) v:=fun⟨b,e,h⟩=>by subst e;exact ϰw (SqT.of h) (.cons (ϕI _) (.cons (ϕI _) .nil))
theorem ϱy {N:Int}{K:Frag}{H:Hp}:∀{fr:List Int}{ys:List V},Paired (RmV N H) fr ys→Reps K H (fr.map (dRm N)) ys
 |[],_,h=>by cases h;exact .nil
 |_::_,_,h=>by cases h with|cons h1 h2=>exact .cons h1.rep (ϱy h2)
theorem ϱP (N:Int):∀fr:List Int,ϕe (fr.map (dRm N))≤1
 |[]=>Nat.zero_le _
 |i::fr=>by
  have:=ϱP N fr
  rw[List.map_cons,ϕe]
  have e:deep (dRm N i)=1:=by simp[dRm,deep,ϕe]
  omega
theorem ϲP (N:Int) (fr:List Int):eqD (.lst (fr.map (dRm N))) (.lst [])=decide (fr=[]):=by
 cases fr with
 |nil=>rfl
 |cons i fr=>rfl
theorem bk_kbP {N n:Int}{S:List Stp}{A H H':Hp}{pd d:Addr}{ts:List Nat}{kvs:List (List Key×V)} (b:Bk isQ (ϕB N n S) A H pd ts kvs) (hd:A d≠none) (k:KB d H H'):Bk isQ (ϕB N n S) A H' pd ts kvs:=
 ⟨fun key v h=>let ⟨l,ys,e,h1,h2,h3,h4,h5⟩:=b.there key v h;⟨l,ys,e,h1,h2,k l _ (fun z=>hd (z▸h1)) h3,ϖg (fun _ _ h=>h) h4,h5⟩,b.nokey,b.inj,b.len⟩
theorem TrDP.gt {N:Int}{K:Frag}{H H':Hp}{d:Addr}{T:List En} (g:GT H H') (e:H' d=H d):TrDP N K H d T→TrDP N K H' d T:=fun⟨kvs,h,p⟩=>⟨kvs,by rw[e];exact h,ϖg (fun _ _=>EnVP.gt g) p⟩
theorem TrDP.mono {N:Int}{K:Frag}{H H':Hp}{d:Addr}{T:List En} (g:Same H H'):TrDP N K H d T→TrDP N K H' d T:=fun⟨kvs,h,p⟩=>⟨kvs,g _ _ h,ϖg (fun _ _=>EnVP.gt (GT.of g)) p⟩
theorem kbT {N:Int}{d b:Addr}{H H':Hp}{r:Int}{kvs:List (List Key×V)} (k:KB d H H') (hd:H d=some (.dT kvs)) (h:H b=some (tupR N r)):H' b=some (tupR N r):=k b _ (fun z=>by rw[z,hd] at h;cases h) h
theorem rmKb {N:Int}{d:Addr}{H H':Hp}{kvs:List (List Key×V)} (k:KB d H H') (hd:H d=some (.dT kvs)) {fr:List Int}{ys:List V} (h:Paired (RmV N H) fr ys):Paired (RmV N H') fr ys:=ϖg (fun _ _ ⟨b,e,h⟩=>⟨b,e,kbT k hd h⟩) h
def ScG (N:Int) (K:Frag) (H:Hp) (s:Scr) (v:V) (pb ps pe:Addr):Prop:=∃a,∃z:V,∃xb xs xe,v=.ref a∧SqT K H a [.str s.signs,z,.ref pb,.ref ps,.ref pe]∧SqL K H pb xb∧SqL K H ps xs∧SqL K H pe xe ∧
 Paired (MkG N K H) s.begins xb∧Paired (StG N K H) s.steps xs∧Paired (MkG N K H) s.ends xe
def ϵw (K:Frag):Sp:=fun vs H Q _=>∃N v s pb ps pe,vs=[v]∧ScG N K H s v pb ps pe∧OkR s∧∀d T H',Same H H'→H d=none→TrDP N K H' d T→TrOk s.begins s.steps 0 3 s.rooms T→Q (.ref d) H'
def ϵB (K:Frag):Sp:=fun vs H Q _=>∃N v s pb ps pe,vs=[v]∧ScG N K H s v pb ps pe∧OkR s∧∀d T H',Same H H'→H d=none→TrDP N K H' d T→TrOk s.ends s.steps 3 0 s.rooms T→Q (.ref d) H'
def numKP (N:Int):List Int→Nat→List (List Key×V)
 |[],_=>[]
 |u::us,k=>(keyR N u,.int (k:Int))::numKP N us (k+1)
def enc (N i j:Int):Int:=j+N*i
theorem ϲ9 {N i j:Int} (h0:0≤j) (h1:j < N):enc N i j / N=i:=by
 unfold enc
 rw[Int.add_mul_ediv_left _ _ (by omega),Int.ediv_eq_zero_of_lt h0 h1];omega
theorem ϲL {N i j:Int} (h0:0≤j) (h1:j < N):enc N i j % N=j:=by
 unfold enc
 rw[Int.add_mul_emod_self_left];exact Int.emod_eq_of_lt h0 h1
theorem ϱx {N R i j:Int} (h0:0≤j) (h1:j < N) (i0:0≤i) (i1:i < R):0≤enc N i j∧enc N i j < R*N:=by
 unfold enc
 have e1:N*i≤N*(R-1):=Int.mul_le_mul_of_nonneg_left (by omega) (by omega)
 have e2:N*(R-1)=R*N-N:=by rw[Int.mul_sub,Int.mul_one,Int.mul_comm]
 have e3:0≤N*i:=Int.mul_nonneg (by omega) i0
 omega
theorem ϱp {N i j:Int} (h0:0≤j) (h1:j < N):tupR N (enc N i j)=.tup [V.int i,V.int j]:=by unfold tupR;rw[ϲ9 h0 h1,ϲL h0 h1]
def TS (H H':Hp):Prop:=∀b xs,H b=some (.tup xs)→H' b=some (.tup xs)
theorem ϲk {H:Hp}{p:Addr}{o:HO} (h:H p=some o) (n1:∀xs,o≠.tup xs) (o':HO):TS H (upd H p o'):=fun b xs q=>by
 rw[ϖs (fun z=>by rw[z,h] at q;exact n1 xs (Option.some.inj q))];exact q
def ϵN (K:Frag):Sp:=fun vs H Q _=>∃p xs,vs=[.ref p]∧SqL K H p xs∧xs.length≤999∧((∀ x∈xs,∃n:Int,x=.int n)∨(∀ x∈xs,∃b ks,x=.ref b∧H b=some (.tup (List.map kV ks)))) ∧
 ∀l H' (ns:List Nat),Same H H'→H l=none→H' l=some (.lst (ns.map qV))→(∀ q∈ns,q < xs.length)→ns.length≤xs.length→Q (.ref l) H'
abbrev DM:=Int×(Nat×Nat)×(Str×Str)
abbrev DS:=Int×(Nat×Nat)×(Str×Str)×Int
def DmV (N:Int) (K:Frag) (H:Hp) (d:DM) (v:V):Prop:=∃b c p w,v=.ref b∧SqT K H b [.ref c,.ref p,.ref w]∧H c=some (tupR N d.1)∧SqT K H p [.int (d.2.1.1:Int),.int (d.2.1.2:Int)]∧SqT K H w [.str d.2.2.1,.str d.2.2.2]
def DsV (N:Int) (K:Frag) (H:Hp) (d:DS) (v:V):Prop:=∃b c p w e,v=.ref b∧SqT K H b [.ref c,.ref p,.ref w,.ref e]∧H c=some (tupR N d.1)∧SqT K H p [.int (d.2.1.1:Int),.int (d.2.1.2:Int)]∧SqT K H w [.str d.2.2.1.1,.str d.2.2.1.2]∧H e=some (tupR N d.2.2.2)
theorem DmV.gt {N:Int}{K:Frag}{H H':Hp}{d:DM}{v:V} (g:GT H H') (s:TS H H'):DmV N K H d v→DmV N K H' d v:=fun⟨b,c,p,w,e,h1,h2,h3,h4⟩=>⟨b,c,p,w,e,g.seqT h1,s _ _ h2,g.seqT h3,g.seqT h4⟩
theorem DsV.gt {N:Int}{K:Frag}{H H':Hp}{d:DS}{v:V} (g:GT H H') (s:TS H H'):DsV N K H d v→DsV N K H' d v:=fun⟨b,c,p,w,e,z,h1,h2,h3,h4,h5⟩=>⟨b,c,p,w,e,z,g.seqT h1,s _ _ h2,g.seqT h3,g.seqT h4,s _ _ h5⟩
theorem TS.of {H H':Hp} (g:Same H H'):TS H H':=fun b xs h=>g _ _ h
def mE (d:DM):Mk:=(d.1,"")
def sE (d:DS):Stp:=(d.1,"","",d.2.2.2)
theorem DmV.g {N:Int}{K:Frag}{H:Hp}{d:DM}{v:V}:DmV N K H d v→MkG N K H (mE d) v:=fun⟨b,c,p,w,e,h1,h2,_,_⟩=>⟨b,c,_,e,h1,h2⟩
theorem DsV.g {N:Int}{K:Frag}{H:Hp}{d:DS}{v:V}:DsV N K H d v→StG N K H (sE d) v:=fun⟨b,c,p,w,e,z,h1,h2,_,_,h5⟩=>⟨b,c,e,_,_,z,h1,h2,h5⟩
def DmOk (R:Int) (D:List DM):Prop:=∀d∈D,0≤d.1∧d.1 < R∧d.2.2.1.length≤100∧d.2.2.2.length≤100
def DsOk (R:Int) (D:List DS):Prop:=∀d∈D,0≤d.1∧d.1 < R∧d.2.2.1.1.length≤100∧d.2.2.1.2.length≤100∧0≤d.2.2.2∧d.2.2.2 < R
def spDM (K:Frag):Sp:=fun vs H Q _=>∃N am M,vs=[.ref am]∧0 < N∧MkL K H am M∧M.length≤30∧(∀ m∈M,0≤m.1∧m.1 < N∧m.2.length≤100)∧∀l H' (D:List DM),Same H H'→H l=none→(∃ xs,H' l=some (.lst xs)∧Paired (DmV N K H') D xs)→DmOk (N*N) D→D.length≤900→Q (.ref l) H'
def PlS (H0 H:Hp) (d:Addr) (n:Nat) (kv:Key×V):Prop:=∃l,∃qs:List Nat,kv.2=.ref l∧l≠d∧H0 l=none∧H l=some (.lst (qs.map qV))∧(∀ q∈qs,q < n)∧qs.length≤n
def spPS (K:Frag):Sp:=fun vs H Q _=>∃as_ S,vs=[.ref as_]∧StL K H as_ S∧S.length≤20∧∀d H' kvs,Same H H'→H d=none→H' d=some (.dK kvs)→kvs.length≤20→(∀ kv∈kvs,PlS H H' d S.length kv)→Q (.ref d) H'
theorem ϵH {κ:Type} [DecidableEq κ] {k:κ}{v:V}:∀{kvs:List (κ×V)},valV kvs k=some v→∃kv∈kvs,kv.2=v
 |[],h=>by cases h
 |p::r,h=>by
  by_cases c:p.1=k
  ·rw[ϖ7 c] at h
   injection h with h
   exact⟨p,List.mem_cons_self ..,h⟩
  ·rw[ϖ2 c] at h
   obtain⟨kv,h1,h2⟩:=ϵH h
   exact⟨kv,List.mem_cons_of_mem _ h1,h2⟩
def PlJ (H0 H:Hp) (d lp:Addr) (n i:Nat) (kv:Key×V):Prop:=∃l,∃qs:List Nat,kv.2=.ref l∧l≠d∧l≠lp∧H0 l=none∧H l=some (.lst (qs.map qV))∧(∀ q∈qs,q < n)∧qs.length≤i
theorem PlJ.same {H0 H H':Hp}{d lp:Addr}{n i:Nat}{kv:Key×V} (g:Same H H'):PlJ H0 H d lp n i kv→PlJ H0 H' d lp n i kv:=fun⟨l,qs,e,e1,e2,e3,e4,e5⟩=>⟨l,qs,e,e1,e2,e3,g _ _ e4,e5⟩
theorem PlJ.dict {H0 H:Hp}{d lp:Addr}{n i:Nat}{kv:Key×V}{o:HO}:PlJ H0 H d lp n i kv→PlJ H0 (L2.upd H d o) d lp n i kv:=fun⟨l,qs,e,e1,e2,e3,e4,e5⟩=>⟨l,qs,e,e1,e2,e3,(ϖs e1).trans e4,e5⟩
theorem PlJ.upd {H0 H:Hp}{d lp l:Addr}{n i:Nat}{kv:Key×V}{qs:List Nat}{q:Nat} (hq:∀x∈qs,x < n) (h1:q < n) (hn:qs.length≤i) (h:PlJ H0 H d lp n i kv):PlJ H0 (L2.upd H l (.lst (qs.map qV++[qV q]))) d lp n (i+1) kv:=by
 obtain⟨l2,qs2,e,e1,e2,e3,e4,e5,e6⟩:=h
 by_cases c:l2=l
 ·subst c
  refine⟨l2,qs++[q],e,e1,e2,e3,by rw[ϖd,List.map_append];rfl,fun x hx=>?_,by rw[List.length_append,List.length_singleton];omega⟩
  rcases List.mem_append.mp hx with hx|hx
  ·exact hq x hx
  ·rw[List.mem_singleton.mp hx];exact h1
 ·exact⟨l2,qs2,e,e1,e2,e3,(ϖs c).trans e4,e5,by omega⟩
theorem PlS.same {H0 H H':Hp}{d:Addr}{n:Nat}{kv:Key×V} (g:Same H H'):PlS H0 H d n kv→PlS H0 H' d n kv:=fun⟨l,qs,e,e1,e2,e3,e4⟩=>⟨l,qs,e,e1,e2,g _ _ e3,e4⟩
theorem PlS.oth {H0 H:Hp}{d a:Addr}{o:HO}{n:Nat}{kv:Key×V} (ha:∀l xs,H l=some (.lst xs)→H0 l=none→l≠d→l≠a):PlS H0 H d n kv→PlS H0 (L2.upd H a o) d n kv:=fun⟨l,qs,e,e1,e2,e3,e4⟩=>⟨l,qs,e,e1,e2,(ϖs (ha _ _ e3 e2 e1)).trans e3,e4⟩
def spDS (K:Frag):Sp:=fun vs H Q _=>∃N as_ S,vs=[.ref as_]∧0 < N∧StL K H as_ S∧S.length≤20∧(∀ t∈S,0≤t.1∧t.1 < N∧t.2.2.1.length≤100∧0≤t.2.2.2∧t.2.2.2 < N)∧∀l H' (D:List DS),Same H H'→H l=none→(∃ xs,H' l=some (.lst xs)∧Paired (DsV N K H') D xs)→DsOk (N*N) D→D.length≤19999→Q (.ref l) H'
structure DbOk (R:Int) (B:List DM) (S:List DS) (E:List DM):Prop where
 b:DmOk R B
 s:DsOk R S
 e:DmOk R E
 lb:B.length≤900
 ls:S.length≤19999
 le:E.length≤900
 r0:0≤R
 r9:R≤99
def dbS (g:Str) (R:Int) (B:List DM) (S:List DS) (E:List DM):Scr:=⟨g,R,B.map mE,S.map sE,E.map mE⟩
def DbV (N:Int) (K:Frag) (H:Hp) (g:Str) (B:List DM) (S:List DS) (E:List DM) (v:V) (pb ps pe:Addr):Prop:=∃a,∃z:V,∃xb xs xe,v=.ref a∧SqT K H a [.str g,z,.ref pb,.ref ps,.ref pe]∧SqL K H pb xb∧SqL K H ps xs∧SqL K H pe xe∧Paired (DmV N K H) B xb∧Paired (DsV N K H) S xs∧Paired (DmV N K H) E xe
theorem DbV.mono {N:Int}{K:Frag}{H H':Hp}{g:Str}{B:List DM}{S:List DS}{E:List DM}{v:V}{pb ps pe:Addr} (s:Same H H'):DbV N K H g B S E v pb ps pe→DbV N K H' g B S E v pb ps pe
 |⟨a,z,xb,xs,xe,e,h1,h2,h3,h4,h5,h6,h7⟩=>⟨a,z,xb,xs,xe,e,Same.seqT s h1,s.seq h2,s.seq h3,s.seq h4,ϖg (fun _ _=>DmV.gt (GT.of s) (TS.of s)) h5,ϖg (fun _ _=>DsV.gt (GT.of s) (TS.of s)) h6,ϖg (fun _ _=>DmV.gt (GT.of s) (TS.of s)) h7⟩
theorem ϑq {α β:Type}{F:α→V→Prop}{G:β→V→Prop}{f:α→β} (h:∀a v,F a v→G (f a) v):∀{xs:List α}{ys:List V},Paired F xs ys→Paired G (xs.map f) ys
 |[],_,e=>by cases e;exact .nil
 |_::_,_,e=>by cases e with|cons e1 e2=>exact .cons (h _ _ e1) (ϑq h e2)
theorem DbV.g {N:Int}{K:Frag}{H:Hp}{g:Str}{R:Int}{B:List DM}{S:List DS}{E:List DM}{v:V}{pb ps pe:Addr}:DbV N K H g B S E v pb ps pe→ScG N K H (dbS g R B S E) v pb ps pe
 |⟨a,z,xb,xs,xe,e,h1,h2,h3,h4,h5,h6,h7⟩=>⟨a,z,xb,xs,xe,e,h1,h2,h3,h4,ϑq (f:=mE) (fun _ _=>DmV.g) h5,ϑq (f:=sE) (fun _ _=>DsV.g) h6,ϑq (f:=mE) (fun _ _=>DmV.g) h7⟩
theorem DbOk.r {R:Int}{B:List DM}{S:List DS}{E:List DM}{g:Str} (h:DbOk R B S E):OkR (dbS g R B S E):=by
 refine⟨by show(B.map mE).length≤999;rw[List.length_map];have:=h.lb;omega,by show(S.map sE).length≤19999;rw[List.length_map];exact h.ls,by show(E.map mE).length≤999;rw[List.length_map];have:=h.le;omega,by show R≤999;have:=h.r9;omega,fun m hm=>?_,fun t ht=>?_,fun m hm=>?_⟩
 ·obtain⟨d,hd,rfl⟩:=List.mem_map.mp (show m∈B.map mE from hm)
  exact⟨(h.b d hd).1,(h.b d hd).2.1⟩
 ·obtain⟨d,hd,rfl⟩:=List.mem_map.mp (show t∈S.map sE from ht)
  have:=h.s d hd
  exact⟨this.1,this.2.1,this.2.2.2.2.1,this.2.2.2.2.2⟩
 ·obtain⟨d,hd,rfl⟩:=List.mem_map.mp (show m∈E.map mE from hm)
  exact⟨(h.e d hd).1,(h.e d hd).2.1⟩
def spDb (K:Frag):Sp:=fun vs H Q _=>∃v s pb ps pe,vs=[v]∧ScV K H s v pb ps pe∧OkR s∧ϲB s∧s.begins.length≤20∧s.steps.length≤20∧s.ends.length≤20∧0≤s.rooms∧s.rooms≤8∧∀N v' H' R B S E pb' ps' pe',Same H H'→DbV N K H' s.signs B S E v' pb' ps' pe'→DbOk R B S E→Q v' H'
def spB1 (K:Frag):Sp:=fun vs H Q _=>∃p q a b c d,vs=[.ref p,.ref q]∧SqT K H p [.str a,.str b]∧SqT K H q [.str c,.str d]∧a.length+c.length≤90000∧b.length+d.length≤90000∧∀t H',Same H H'→H' t=some (.tup [.str (a++c),.str (b++d)])→Q (.ref t) H'
def spAp (K:Frag):Sp:=fun vs H Q _=>∃p q a b c d,vs=[.ref p,.ref q]∧SqT K H p [.str a,.str b]∧SqT K H q [.str c,.str d]∧a.length+c.length≤90000∧b.length+d.length≤90000∧∀x:Bool,Q (.bl x) H
def WpV (N:Int) (K:Frag) (H:Hp) (L:Nat) (e:En) (kv:List Key×V):Prop:=kv.1=keyR N e.1∧∃t a b,kv.2=.ref t∧SqT K H t [.str a,.str b]∧a.length≤L∧b.length≤L
theorem WpV.gt {N:Int}{K:Frag}{H H':Hp}{L:Nat}{e:En}{kv:List Key×V} (g:GT H H'):WpV N K H L e kv→WpV N K H' L e kv:=fun⟨h1,t,a,b,h2,h3,h4⟩=>⟨h1,t,a,b,h2,g.seqT h3,h4⟩
theorem WpV.up {N:Int}{K:Frag}{H:Hp}{L M:Nat} (h:L≤M) {e:En}{kv:List Key×V}:WpV N K H L e kv→WpV N K H M e kv:=fun⟨h1,t,a,b,h2,h3,h4,h5⟩=>⟨h1,t,a,b,h2,h3,by omega,by omega⟩
theorem ϕ6 {N:Int}{K:Frag}{H:Hp}{L:Nat}:∀{T:List En}{kvs:List (List Key×V)}{r:Int},Paired (WpV N K H L) T kvs→r∈ϖy T→∃t a b,valV kvs (keyR N r)=some (.ref t)∧SqT K H t [.str a,.str b]∧a.length≤L∧b.length≤L
 |[],_,r,h,hr=>by simp[ϖy] at hr
 |e::T,_,r,h,hr=>by
  cases h with
  |@cons _ kv _ kvs h1 h2=>
   by_cases c:e.1=r
   ·obtain⟨k1,t,a,b,k2,k3,k4,k5⟩:=h1
    exact⟨t,a,b,by rw[ϖ7 (by rw[k1,c]),k2],k3,k4,k5⟩
   ·have hr':r∈ϖy T:=by
     unfold ϖy at hr
     rw[List.map_cons,List.mem_cons] at hr
     exact hr.elim (fun z=>absurd z.symm c) id
    obtain⟨t,a,b,k1,k2⟩:=ϕ6 h2 hr'
    exact⟨t,a,b,by rw[ϖ2 (by rw[h1.1];exact fun z=>c (ϕF z))];exact k1,k2⟩
theorem ϕr {N:Int}{K:Frag}{H:Hp}{L:Nat}:∀{T:List En}{kvs:List (List Key×V)}{r:Int},Paired (WpV N K H L) T kvs→r∉ϖy T→valV kvs (keyR N r)=none
 |[],_,r,h,_=>by cases h;rfl
 |e::T,_,r,h,hr=>by
  cases h with
  |@cons _ kv _ kvs h1 h2=>
   unfold ϖy at hr
   rw[List.map_cons,List.mem_cons] at hr
   rw[ϖ2 (by rw[h1.1];exact fun z=>hr (.inl (ϕF z).symm)),ϕr h2 fun z=>hr (.inr z)]
def TrF (N:Int) (K:Frag) (H:Hp) (d:Addr) (T:List En):Prop:=∃o kvs,H d=some (.frz o (.dT kvs))∧Paired (EnVP N K H) T kvs
theorem TrF.mono {N:Int}{K:Frag}{H H':Hp}{d:Addr}{T:List En} (g:Same H H'):TrF N K H d T→TrF N K H' d T:=fun⟨o,kvs,h,p⟩=>⟨o,kvs,g _ _ h,ϖg (fun _ _=>EnVP.gt (GT.of g)) p⟩
def WrD (N:Int) (K:Frag) (H:Hp) (d:Addr) (T:List En):Prop:=∃kvs,H d=some (.dT kvs)∧Paired (WpV N K H 20000) T kvs
def spWA (K:Frag):Sp:=fun vs H Q _=>∃N v g R B S E pb ps pe d T,vs=[v,.ref d]∧DbV N K H g B S E v pb ps pe∧DbOk R B S E∧TrF N K H d T∧TrOk (B.map mE) (S.map sE) 0 3 R T∧∀d' H',Same H H'→WrD N K H' d' T→Q (.ref d') H'
def spWB (K:Frag):Sp:=fun vs H Q _=>∃N v g R B S E pb ps pe d T,vs=[v,.ref d]∧DbV N K H g B S E v pb ps pe∧DbOk R B S E∧TrF N K H d T∧TrOk (E.map mE) (S.map sE) 3 0 R T∧∀d' H',Same H H'→WrD N K H' d' T→Q (.ref d') H'
theorem ϵu {M:List Mk}{S:List Stp}{n f R:Int}{T:List En} (h:TrOk M S n f R T) (h9:R≤99):T.length≤99:=by
 have:=ϱc R.toNat (ϖy T) h.ti.nd fun x hx=>by have:=h.bnd x hx;omega
 unfold ϖy at this
 rw[List.length_map] at this
 omega
def ϵc (K:Frag):Sp:=fun vs H Q _=>∃N rb d as_ n f R T M S r,vs=[.ref rb,.ref d,.ref as_,.int n]∧(n=0∨n=3)∧StLG N K H as_ S∧TrF N K H d T∧TrOk M S n f R T∧R≤99∧H rb=some (tupR N r)∧r∈ϖy T∧∀l H' (qs:List Nat),Same H H'→H l=none→H' l=some (.lst (qs.map qV))→(∀ q∈qs,q < S.length)→qs.length≤99→Q (.ref l) H'
theorem ϕt {N:Int}{K:Frag}{H:Hp}{d b:Addr}{T:List En}{r:Int} (h:TrF N K H d T) (hr:r∈ϖy T) (hb:H b=some (tupR N r)):∃(i:Nat) (e:En) (t:Addr),T[i]?=some e∧e.1=r∧DGet H d (.ref b) (some (.ref t))∧SqT K H t [.int (e.2.1:Int),optN e.2.2]:=by
 obtain⟨o,kvs,hd,hp⟩:=h
 obtain⟨i,e,t,h1,h2,h3,h4⟩:=ϰe hp hr
 exact⟨i,e,t,h1,h2,.inr ⟨kvs,keyR N r,b,.inr ⟨o,hd⟩,rfl,hb,h3.symm⟩,h4⟩
def WbV (K:Frag) (H:Hp) (nb ns ne:Nat) (v:V):Prop:=v=.non∨∃b l,∃i j:Nat,∃qs:List Nat,v=.ref b∧SqT K H b [.int (i:Int),.ref l,.int (j:Int)]∧H l=some (.lst (qs.map qV))∧i < nb∧j < ne∧(∀ q∈qs,q < ns)∧qs.length≤999
theorem WrD.mono {N:Int}{K:Frag}{H H':Hp}{d:Addr}{T:List En} (g:Same H H'):WrD N K H d T→WrD N K H' d T:=fun⟨kvs,h,p⟩=>⟨kvs,g _ _ h,ϖg (fun _ _=>WpV.gt (GT.of g)) p⟩
def ϡe (K:Frag):Sp:=fun vs H Q _=>∃N v g R Bm S Em pb ps pe d T,vs=[v,.ref d]∧DbV N K H g Bm S Em v pb ps pe∧DbOk R Bm S Em∧TrF N K H d T∧TrOk (Em.map mE) (S.map sE) 3 0 R T∧∀w H',Same H H'→WbV K H' Bm.length S.length Em.length w→Q w H'
def ϲ6 (K:Frag):Sp:=fun vs H Q _=>∃N v g R Bm S Em pb ps pe d T,vs=[v,.ref d]∧DbV N K H g Bm S Em v pb ps pe∧DbOk R Bm S Em∧TrF N K H d T∧TrOk (Bm.map mE) (S.map sE) 0 3 R T∧∀w H',Same H H'→WbV K H' Bm.length S.length Em.length w→Q w H'
def ϲQ (K:Frag):Sp:=fun vs H Q _=>∃N v g R Bm S Em pb ps pe d T d2 T2,vs=[v,.ref d,.ref d2]∧DbV N K H g Bm S Em v pb ps pe∧DbOk R Bm S Em∧TrF N K H d T∧TrOk (Bm.map mE) (S.map sE) 0 3 R T∧TrF N K H d2 T2∧TrOk (Em.map mE) (S.map sE) 3 0 R T2∧∀w H',Same H H'→WbV K H' Bm.length S.length Em.length w→Q w H'
def ϵ1 (K:Frag):Sp:=fun vs H Q _=>∃N v g R Bm S Em pb ps pe d T rb r,vs=[.ref rb,.ref d,v]∧DbV N K H g Bm S Em v pb ps pe∧DbOk R Bm S Em∧TrF N K H d T∧TrOk (Bm.map mE) (S.map sE) 0 3 R T∧H rb=some (tupR N r)∧r∈ϖy T∧∀l H' (qs:List Nat),Same H H'→H l=none→H' l=some (.lst (qs.map qV))→(∀ q∈qs,q < S.length)→qs.length≤99→Q (.ref l) H'
def spWy (K:Frag):Sp:=fun vs H Q _=>∃N v g R Bm S Em pb ps pe,vs=[v]∧DbV N K H g Bm S Em v pb ps pe∧DbOk R Bm S Em∧∀w H',Same H H'→WbV K H' Bm.length S.length Em.length w→Q w H'
def spSg (K:Frag):Sp:=fun vs H Q _=>∃N v g Bm S Em pb ps pe w c,vs=[v,w,.int c]∧(c=0∨c=1)∧DbV N K H g Bm S Em v pb ps pe∧w≠.non∧WbV K H Bm.length S.length Em.length w∧∀t H',Same H H'→Q (.ref t) H'
theorem at01 {c:Int} (h:c=0∨c=1) (x y:Int):∃n:Int,atI [V.int x,V.int y] c=some (V.int n):=by
 rcases h with rfl|rfl
 ·exact⟨x,ϖM (j:=0) rfl⟩
 ·exact⟨y,ϖM (j:=1) rfl⟩
def spMR (K:Frag) (c:Addr):Sp:=fun vs H Q E=>∃v s pb ps pe,vs=[v]∧ScV K H s v pb ps pe∧(s.rooms≤8→Q .non H)∧(8 < s.rooms→E (.ref c) none H)
def spTW (K:Frag) (c:Addr):Sp:=fun vs H Q E=>∃v s pb ps pe,vs=[v]∧ScV K H s v pb ps pe∧OkR s∧ϲB s∧s.begins.length≤20∧s.steps.length≤20∧s.ends.length≤20∧0≤s.rooms∧(s.rooms≤8→∀w H',Same H H'→Q w H')∧(8 < s.rooms→E (.ref c) none H)
theorem ϵJ {M:List Mk}{S:List Stp}{n f R:Int}{T:List En} (h:TrOk M S n f R T):∀(k i:Nat) (e:En),i < k→T[i]?=some e→e.2.1 < M.length
 |0,_,_,hk,_=>by omega
 |k+1,i,e,hk,he=>by
  rcases h.ti.en i e he with⟨_,m,hm,_⟩|⟨_,_,_,_,_,j,e',hj,he',_,hro⟩
  ·exact(List.getElem?_eq_some_iff.mp hm).1
  ·rw[← hro];exact ϵJ h k j e' (by omega) he'
theorem wd_ab (j:Int):Wd (Txt.slice "ab" none (some j)):=⟨Nat.le_trans (Txt.slice_le _ _ _) (by decide +kernel),fun c hc=>by
 rw[ϵ3] at hc
 exact(by decide +kernel:∀c∈cl ("ab":Str),97≤c∧c≤122) c (List.mem_of_mem_drop (List.mem_of_mem_take hc))⟩
theorem ϵA:("ab":Str).length=2:=by decide +kernel
def ϱl (K:Frag) (c:Addr):Sp:=fun vs H Q _=>∃x,vs=[.ref x]∧H x=some (Exc x c)∧∀H',Same H H'→Q (.bl true) H'
def bsA:List Bool:=[false,false,false,false,true,false,false,false]
theorem ab_ba:∀c∈cl ("ab":Str),c∈cl ("ba":Str):=by decide +kernel
def ϵR (K:Frag):Sp:=fun vs H Q _=>∃(a:Addr) (ns:List Int),vs=[.ref a]∧SqL K H a (ns.map V.int)∧ns.length≤63∧∀H',Q (.bl true) H'
theorem ϵx {s:Scr}{n:Nat} (h1:OkS false s n):ϲB s:=by
 have sg:∀{x:Str}{g:Str},(∃ c∈cl g,x=⟨#[c]⟩)→x.length≤100:=fun⟨c,_,e⟩=>by subst e;show(1:Nat)≤100;decide
 refine⟨fun m hm=>?_,fun t ht=>?_,fun m hm=>?_⟩
 ·exact Nat.le_trans (h1.mb m hm).2.2.1 (by decide)
 ·obtain⟨z1,z2,z3,z4,z5,z6⟩:=h1.ms t ht;exact⟨sg z3,Nat.le_trans z4.1 (by decide)⟩
 ·exact Nat.le_trans (h1.me m hm).2.2.1 (by decide)
theorem okS_R {s:Scr} (h1:OkS false s 20) (r1:s.rooms≤200):OkR s:=
 ⟨Nat.le_trans h1.lb (by decide),Nat.le_trans h1.ls (by decide),Nat.le_trans h1.le (by decide),by omega,fun m hm=>⟨(h1.mb m hm).1,(h1.mb m hm).2.1⟩,fun t ht=>by obtain⟨z1,z2,z3,z4,z5,z6⟩:=h1.ms t ht;exact⟨z1,z2,z5,z6⟩,fun m hm=>⟨(h1.me m hm).1,(h1.me m hm).2.1⟩⟩
section
seal L2.PE L2.PT L2.PW L2.PA L2.PS L2.PSs L2.PC L2.PG L2.PGs L2.PI L2.PO
variable {P:Program}{w:World}{K:Frag}{mg:Str→Option Value}{base:Heap}
theorem sc_places_at:FnScope ["steps","side","found","place","step"] ["steps","side"] (ϖm ϑE):=⟨rfl,rfl,rfl,by decide +kernel,rfl,by decide +kernel,by decide +kernel⟩
theorem ϰT (B:Bi mg) {ϖc ϖu ϖo ϖh ϖe ϖb ϖl ϖf ϖn:Addr} (XB:Xb K mg ϖc ϖu ϖo ϖh ϖe ϖb ϖl ϖf ϖn)  {f:Addr}{fd:FuncData} (F:Fun K "places_at" "places_at" ϑE f fd):FnOk P w K mg base CX0 1 f fd ["steps","side"] (ϕ8 K):=by
 refine F.ok sc_places_at (fun vs H Q E h=>?_) (fun cdv A outer s H vs Q E hr h=>?_)
 ·obtain⟨a,n,rfl,_⟩:=h;rfl
 obtain⟨a,n,rfl,hn,h⟩:=h
 refine⟨_,(ϖj (ϖx (i:=2) sc_places_at.nd rfl (Or.inl rfl) (ϲO ϰA ϕE))
   (ϖj (ϑI PassesOwn.never (by rfl) (kPI (K:=K) (fun k=>iEnu k _) (ϰr (by rfl) B.enumerate (ϖa (pv 0) ϖk))) (kPG (K:=K) (fun k=>gTup k 2 _) (ϕW (n:=2) (by rfl) (ϖ3 (ϖF (i:=3) sc_places_at.nd rfl (Or.inl rfl)) (ϖ3 (ϖF (i:=4) sc_places_at.nd rfl (Or.inl rfl)) ϕd)))) (ϖq (ϑ5 (kPE (K:=K) (fun k=>tBM k _ _ _ _) (ϕY PySem.F.plainAttrs_list PySem.F.slot_list_append PySem.F.type_list_append ϑG (kPE (K:=K) (fun k=>tBM k _ _ _ _) (ϕY PySem.F.plainAttrs_dict PySem.F.slot_dict_setdefault PySem.F.type_dict_setdefault (ϕC hr) (pv 2) (ϖa (hs:=ϖJ) (ϖv (kIx (K:=K) rIxT ϖp) (pv 4) (pv 1) (by intro _ _;rfl)) (ϖa (hs:=ϱW) (ϑz ϖk) ϖk)))) (ϖa (pv 3) ϖk))))))
   (ϖq (ϖP (pv 2))))),?_⟩
 rcases h with⟨S,⟨xs,h3,h6⟩,hs,q⟩|⟨N,S,⟨xs,h3,h6⟩,hs,q⟩
 ·have hsx:S.length=xs.length:=h6.length
  refine .inl fun d hd=>?_
  have g0:=ϖi hd (.dK [])
  refine⟨_,rfl,a,rfl,⟨xs,g0.seq h3⟩,?_⟩
  refine ϑ8 (xs:=xs) (fun i σ H'=>Same H H'∧i≤xs.length∧(∃ x y,σ=[some (.ref a),some (.int n),some (.ref d),x,y])∧∃kvs,H' d=some (.dK kvs)∧Bk isQ (keyP n S) H H' d (List.range i) kvs)
   ⟨g0,Nat.zero_le _,⟨_,_,rfl⟩,[],ϖd,Bk.nil⟩ (fun i σ H' _ z=>z.1.seq h3) ?_ ?_
  ·rintro i x p0 σ H1 hx ⟨g1,hi,⟨x2,x3,rfl⟩,kvs,hkd,bk⟩ hp0
   obtain⟨t,ht,b,rfl,hb⟩:=ϖX h6 hx
   have hil:i < xs.length:=(List.getElem?_eq_some_iff.mp hx).1
   have gp:=ϖi hp0 (.tup [V.int i,V.ref b])
   have ep:=ϖd (H:=H1) (a:=p0) (o:=.tup [V.int i,V.ref b])
   have hkd:=gp _ _ hkd
   have bk:=bk.mono ϕV gp
   have g1:=g1.trans gp
   generalize upd H1 p0 (.tup [V.int i,V.ref b])=H1 at gp ep hkd bk g1⊢
   have hb1:=(Same.grow g1).seqT hb
   have hkl:kvs.length≤999:=by have:=bk.len;rw[List.length_range] at this;omega
   refine⟨p0,_,rfl,SqT.of ep,rfl,_,_,rfl,_,_,rfl,rfl,?_⟩
   refine⟨_,rfl,.inr (.inr (.inl ⟨rfl,.inl ⟨kvs,hkd⟩⟩)),?_⟩
   refine⟨_,rfl,_,rfl,_,_,_,_,rfl,rfl,hb1,ϲr hn t,szl (by simp),fun l hl=>?_⟩
   have gl:=ϖi hl (.lst [])
   have hk2:=gl _ _ hkd
   have bk2:=bk.mono ϕV gl
   have g2:=g1.trans gl
   have el:upd H1 l (.lst []) l=some (.lst []):=ϖd
   have hl0:H l=none:=g1.free hl
   have hln:∀k,valV kvs k≠some (.ref l):=fun k hk=>by
    obtain⟨l',ys,e,_,_,h3',_⟩:=bk.there k _ hk
    injection e with e
    subst e
    rw[h3'] at hl;cases hl
   have hld:l≠d:=(ϖw hkd hl).symm
   generalize upd H1 l (.lst [])=H2 at hk2 bk2 g2 el⊢
   have hkey:keyP n S i=Sum.inl (ϖE n t):=by unfold keyP;rw[ht];rfl
   refine⟨d,V.int (ϖE n t),.ref l,rfl,rfl,.inl ⟨kvs,keyP n S i,hk2,by rw[hkey];rfl,szl' (by omega),fun r hr2=>?_,fun hnn=>?_⟩⟩
   ·obtain⟨l2,ys,rfl,j1,j2,j3,j4,j5⟩:=bk2.there _ _ hr2
    have hyl:ys.length≤999:=by
     rw[← j4.length]
     have:=List.length_filter_le (fun t'=>decide (keyP n S t'=keyP n S i)) (List.range i)
     rw[List.length_range] at this;omega
    refine⟨.inl ⟨rfl,_,SqL.of j3⟩,_,rfl,l2,ys,_,rfl,rfl,j3,szl' (by omega),?_⟩
    refine⟨ϖA g2 j1,hil,⟨_,_,rfl⟩,kvs,by rw[ϖs j2.symm];exact hk2,?_⟩
    rw[List.range_succ]
    exact bk2.put ϕV hr2 j3 rfl
   ·have e3:upd H2 d (.dK (putK kvs (keyP n S i) (.ref l))) l=some (.lst []):=by rw[ϖs hld];exact el
    refine⟨.inl ⟨rfl,_,SqL.of e3⟩,_,rfl,l,[],_,rfl,rfl,e3,szl' (by simp),?_⟩
    refine⟨ϖA (ϖA g2 hd) hl0,hil,⟨_,_,rfl⟩,putK kvs (keyP n S i) (.ref l),by rw[ϖs hld.symm];exact ϖd,?_⟩
    rw[List.range_succ]
    exact bk2.new ϕV hnn hl0 hld hk2 (fun _ z=>nomatch z) (fun _ _ z=>nomatch z) hln el rfl
  rintro σ H1 ⟨g1,_,⟨x2,x3,rfl⟩,kvs,hkd,bk⟩
  rw[← hsx] at bk
  exact⟨_,rfl,q _ _ g1 ⟨d,kvs,rfl,hd,hkd,bk⟩⟩
 ·have hsx:S.length=xs.length:=h6.length
  refine .inr fun d hd=>?_
  have g0:=ϖi hd (.dT [])
  refine⟨_,rfl,a,rfl,⟨xs,g0.seq h3⟩,?_⟩
  refine ϑ8 (xs:=xs) (fun i σ H'=>Same H H'∧i≤xs.length∧(∃ x y,σ=[some (.ref a),some (.int n),some (.ref d),x,y])∧∃kvs,H' d=some (.dT kvs)∧Bk isQ (ϕB N n S) H H' d (List.range i) kvs)
   ⟨g0,Nat.zero_le _,⟨_,_,rfl⟩,[],ϖd,Bk.nil⟩ (fun i σ H' _ z=>z.1.seq h3) ?_ ?_
  ·rintro i x p0 σ H1 hx ⟨g1,hi,⟨x2,x3,rfl⟩,kvs,hkd,bk⟩ hp0
   obtain⟨t,ht,b,c0,e0,xx,yy,rfl,hb,hc0,he0⟩:=ϖX h6 hx
   obtain⟨ra,hra,hrt⟩:=ϰx hn hc0 he0
   have hil:i < xs.length:=(List.getElem?_eq_some_iff.mp hx).1
   have gp:=ϖi hp0 (.tup [V.int i,V.ref b])
   have ep:=ϖd (H:=H1) (a:=p0) (o:=.tup [V.int i,V.ref b])
   have hkd:=gp _ _ hkd
   have bk:=bk.mono ϕV gp
   have g1:=g1.trans gp
   generalize upd H1 p0 (.tup [V.int i,V.ref b])=H1 at gp ep hkd bk g1⊢
   have hb1:=(Same.grow g1).seqT hb
   have hkl:kvs.length≤19999:=by have:=bk.len;rw[List.length_range] at this;omega
   refine⟨p0,_,rfl,SqT.of ep,rfl,_,_,rfl,_,_,rfl,rfl,?_⟩
   refine⟨_,rfl,.inr (.inr (.inl ⟨rfl,.inr ⟨kvs,hkd⟩⟩)),?_⟩
   refine⟨_,rfl,_,rfl,_,_,_,_,rfl,rfl,hb1,hra,szl (by simp),fun l hl=>?_⟩
   have gl:=ϖi hl (.lst [])
   have hk2:=gl _ _ hkd
   have bk2:=bk.mono ϕV gl
   have g2:=g1.trans gl
   have el:upd H1 l (.lst []) l=some (.lst []):=ϖd
   have hl0:H l=none:=g1.free hl
   have hln:∀k,valV kvs k≠some (.ref l):=fun k hk=>by
    obtain⟨l',ys,e,_,_,h3',_⟩:=bk.there k _ hk
    injection e with e
    subst e
    rw[h3'] at hl;cases hl
   have hld:l≠d:=(ϖw hkd hl).symm
   generalize upd H1 l (.lst [])=H2 at hk2 bk2 g2 el⊢
   have hkey:ϕB N n S i=keyR N (ϖE n t):=by unfold ϕB;rw[ht];rfl
   refine⟨d,V.ref ra,.ref l,rfl,rfl,.inr ⟨kvs,ϕB N n S i,ra,hk2,rfl,by rw[hkey];exact g2 _ _ hrt,szl' (by omega),fun r hr2=>?_,fun hnn=>?_⟩⟩
   ·obtain⟨l2,ys,rfl,j1,j2,j3,j4,j5⟩:=bk2.there _ _ hr2
    have hyl:ys.length≤19999:=by
     rw[← j4.length]
     have:=List.length_filter_le (fun t'=>decide (ϕB N n S t'=ϕB N n S i)) (List.range i)
     rw[List.length_range] at this;omega
    refine⟨.inl ⟨rfl,_,SqL.of j3⟩,_,rfl,l2,ys,_,rfl,rfl,j3,szl' (by omega),?_⟩
    refine⟨ϖA g2 j1,hil,⟨_,_,rfl⟩,kvs,by rw[ϖs j2.symm];exact hk2,?_⟩
    rw[List.range_succ]
    exact bk2.put ϕV hr2 j3 rfl
   ·have e3:upd H2 d (.dT (putK kvs (ϕB N n S i) (.ref l))) l=some (.lst []):=by rw[ϖs hld];exact el
    refine⟨.inl ⟨rfl,_,SqL.of e3⟩,_,rfl,l,[],_,rfl,rfl,e3,szl' (by simp),?_⟩
    refine⟨ϖA (ϖA g2 hd) hl0,hil,⟨_,_,rfl⟩,putK kvs (ϕB N n S i) (.ref l),by rw[ϖs hld.symm];exact ϖd,?_⟩
    rw[List.range_succ]
    exact bk2.new ϕV hnn hl0 hld hk2 (fun _ z=>nomatch z) (fun _ _ z=>nomatch z) hln el rfl
  rintro σ H1 ⟨g1,_,⟨x2,x3,rfl⟩,kvs,hkd,bk⟩
  rw[← hsx] at bk
  exact⟨_,rfl,q _ _ g1 ⟨d,kvs,rfl,hd,hkd,bk⟩⟩
theorem sc_traces_from:FnScope ["marks","steps","near","far","traces","place","mark","places","front","behind","room","other"] ["marks","steps","near","far"] (ϖm ϑj):=⟨rfl,rfl,rfl,by decide +kernel,rfl,by decide +kernel,by decide +kernel⟩
theorem ϰk (B:Bi mg) {ϖc ϖu ϖo ϖh ϖe ϖb ϖl ϖf ϖn:Addr} (XB:Xb K mg ϖc ϖu ϖo ϖh ϖe ϖb ϖl ϖf ϖn) (ϕx:Cal P w K mg base "places_at" ["steps","side"] 1 (ϕ8 K)) {f:Addr}{fd:FuncData} (F:Fun K "traces_from" "traces_from" ϑj f fd):FnOk P w K mg base CX0 2 f fd ["marks","steps","near","far"] (ϕH K):=by
 refine F.ok sc_traces_from (fun vs H Q E h=>?_) (fun cdv A outer s H vs Q E hr h=>?_)
 ·obtain⟨N,am,M,as_,S,n,f,R,rfl,_⟩:=h;rfl
 obtain⟨N,am,M,as_,S,n,f,R,rfl,⟨xm,hm1,hm2⟩,hSt,lm,ls,hn,hf,hR,bm,bs,q⟩:=h
 refine⟨_,(ϖj (ϖx (i:=4) sc_traces_from.nd rfl (Or.inl rfl) ϕE)
   (ϖj (ϑI PassesOwn.never (by rfl) (kPI (K:=K) (fun k=>iEnu k _) (ϰr (by rfl) B.enumerate (ϖa (pv 0) ϖk))) (kPG (K:=K) (fun k=>gTup k 2 _) (ϕW (n:=2) (by rfl) (ϖ3 (ϖF (i:=5) sc_traces_from.nd rfl (Or.inl rfl)) (ϖ3 (ϖF (i:=6) sc_traces_from.nd rfl (Or.inl rfl)) ϕd)))) (ϖq (ϑ3 (ϰq (ϰ0 (ϑx hr) (ϖv (kIx (K:=K) rIxT ϖp) (pv 6) ϖr (by intro _ _;rfl)) (pv 4))) (ϖq (ϕy (ϑx hr) (pv 4) (ϖv (kIx (K:=K) rIxT ϖp) (pv 6) ϖr (by intro _ _;rfl)) (ϑb (ϖa (pv 5) (ϖa ϑW ϖk))) rfl)) ϑc)))
   (ϖj (ϖx (i:=7) sc_traces_from.nd rfl (Or.inl rfl) (ϖ9 ϕx hr (by decide:1≤1) (by rfl) (ϖa (pv 1) (ϖa (pv 2) ϖk))))
   (ϖj (ϖx (i:=8) sc_traces_from.nd rfl (Or.inl rfl) (ϕG (ϱt (by rfl)) (by rfl) B.list ϰJ (ϖa (pv 4) ϖk)))
   (ϖj (ϱM PassesOwn.never (ϑp (kOp (K:=K) rNeD (ϲc hr.units)) (pv 8) (ϑz ϖk) (ϑH _)) (ϖj (ϖx (i:=9) sc_traces_from.nd rfl (Or.inl rfl) (ϑz ϖk))
   (ϖj (ϑI PassesOwn.never (by rfl) (kPI (K:=K) (fun k=>ϕZ k _) (ϑT (pv 8))) (ϖF (i:=10) sc_traces_from.nd rfl (Or.inl rfl)) (ϖq (ϑI PassesOwn.never (by rfl) (kPI (K:=K) (fun k=>ϕZ k _) (ϑT (kPE (K:=K) (fun k=>tBM k _ _ _ _) (ϕY PySem.F.plainAttrs_dict PySem.F.slot_dict_get PySem.F.type_dict_get (ϱ5 hr) (pv 7) (ϖa (pv 10) (ϖa (hs:=ϱW) (ϑz ϖk) ϖk)))))) (ϖF (i:=5) sc_traces_from.nd rfl (Or.inl rfl)) (ϖj (ϖx (i:=11) sc_traces_from.nd rfl (Or.inl rfl) (ϖv (kIx (K:=K) rIxT ϖp) (ϖv (kIx (K:=K) rIxL ϖW) (pv 1) (pv 5) (by intro _ _;rfl)) (pv 3) (by intro _ _;rfl)))
   (ϖq (ϑ3 (ϰq (ϰ0 (ϑx hr) (pv 11) (pv 4))) (ϖj (ϕy (ϑx hr) (pv 4) (pv 11) (ϑb (ϖa (hs:=ϖJ) (ϖv (kIx (K:=K) rIxT ϖp) (ϑv (ϑx hr) (pv 4) (pv 10) (by intro _ _;rfl)) ϖr (by intro _ _;rfl)) (ϖa (pv 5) ϖk))) rfl)
   (ϖq (ϑ5 (kPE (K:=K) (fun k=>tBM k _ _ _ _) (ϕY PySem.F.plainAttrs_list PySem.F.slot_list_append PySem.F.type_list_append ϑG (pv 9) (ϖa (pv 11) ϖk)))))) ϑc))))))
   (ϖq (ϖx (i:=8) sc_traces_from.nd rfl (Or.inl rfl) (pv 9))))))
   (ϖq (ϖP (pv 4)))))))),?_⟩
 have hmx:M.length=xm.length:=hm2.length
 refine fun d hd=>?_
 have g0:=ϖi hd (.dT [])
 refine⟨_,rfl,am,rfl,⟨xm,g0.seq hm1⟩,?_⟩
 refine ϑ8 (xs:=xm) (fun i σ H'=>Same H H'∧i≤xm.length∧(∃ x5 x6,σ=[some (.ref am),some (.ref as_),some (.int n),some (.int f),some (.ref d),x5,x6,none,none,none,none,none])∧∃T,TrDP N K H' d T∧TI M S n f T∧T.length≤i∧(∀ m∈M.take i,m.1∈ϖy T)∧(∀ r∈ϖy T,0≤r∧r < R)∧(∀ e∈T,e.2.2=none))
  ⟨g0,Nat.zero_le _,⟨_,_,rfl⟩,[],⟨[],ϖd,.nil⟩,TI.nil,Nat.le_refl _,by simp,by simp[ϖy],by simp⟩ (fun i σ H' _ z=>z.1.seq hm1) ?_ ?_
 ·rintro i x p0 σ H1 hx ⟨g1,hi,⟨x5,x6,rfl⟩,T,⟨kvs,hkd,hp⟩,ti,tl,tm,tb,tz⟩ hp0
  obtain⟨m,hm,b,rb,yy,rfl,hb,hrb⟩:=ϖX hm2 hx
  have hil:i < xm.length:=(List.getElem?_eq_some_iff.mp hx).1
  have gp:=ϖi hp0 (.tup [V.int i,V.ref b])
  have ep:=ϖd (H:=H1) (a:=p0) (o:=.tup [V.int i,V.ref b])
  have hkd:=gp _ _ hkd
  have hp:=ϖg (fun _ _=>EnVP.gt (GT.of gp)) hp
  have g1:=g1.trans gp
  generalize upd H1 p0 (.tup [V.int i,V.ref b])=H1 at gp ep hkd hp g1⊢
  have hb1:=(Same.grow g1).seqT hb
  have hkl:kvs.length=T.length:=hp.length.symm
  refine⟨p0,_,rfl,SqT.of ep,rfl,_,_,rfl,_,_,rfl,rfl,?_⟩
  refine⟨_,rfl,_,_,_,_,rfl,rfl,hb1,ϖM (j:=0) rfl,_,rfl,d,_,rfl,DGet.t (k:=keyR N m.1) hkd (g1 _ _ hrb),_,rfl,?_⟩
  cases hv:valV kvs (keyR N m.1) with
  |some v=>
   refine iteF ?_
   have hin:m.1∈ϖy T:=Classical.byContradiction fun z=>by rw[(ϑX hp).mpr z] at hv;cases hv
   refine⟨g1,hil,⟨_,_,rfl⟩,T,⟨kvs,hkd,hp⟩,ti,by omega,fun m' h'=>?_,tb,tz⟩
   rw[ϑZ hm] at h'
   rcases List.mem_append.mp h' with h'|h'
   ·exact tm m' h'
   ·rw[List.mem_singleton.mp h'];exact hin
  |none=>
   have hnot:=(ϑX hp).mp hv
   refine iteT ?_
   refine⟨_,rfl,(by show 2≤sizeLine;decide),fun p hp2=>?_⟩
   have g2:=ϖi hp2 (.tup [V.int i,V.non])
   have e2:=ϖd (H:=H1) (a:=p) (o:=.tup [V.int i,V.non])
   have hkd:=g2 _ _ hkd
   have hp:=ϖg (fun _ _=>EnVP.gt (GT.of g2)) hp
   have hb2:=(Same.grow g2).seqT hb1
   have g12:=g1.trans g2
   generalize upd H1 p (.tup [V.int i,V.non])=H2 at g2 e2 hkd hp hb2 g12⊢
   refine⟨_,rfl,_,rfl,_,_,_,_,rfl,rfl,hb2,ϖM (j:=0) rfl,d,_,rfl,DPut.t (k:=keyR N m.1) hkd (g12 _ _ hrb) (szl' (by omega)),?_⟩
   refine⟨ϖA g12 hd,hil,⟨_,_,rfl⟩,T++[(m.1,i,none)],TrDP.put (e:=(m.1,i,none)) hkd hp hnot e2,ti.snoc hnot (.inl ⟨rfl,m,hm,rfl⟩),by rw[List.length_append,List.length_singleton];omega,fun m' h'=>?_,fun r hr=>?_,fun e he=>?_⟩
   ·rw[ϑJ]
    rw[ϑZ hm] at h'
    rcases List.mem_append.mp h' with h'|h'
    ·exact List.mem_append_left _ (tm m' h')
    ·rw[List.mem_singleton.mp h'];exact List.mem_append_right _ (by simp)
   ·rw[ϑJ] at hr
    rcases List.mem_append.mp hr with hr|hr
    ·exact tb r hr
    ·rw[List.mem_singleton.mp hr];exact bm m (List.mem_of_getElem? hm)
   ·rcases List.mem_append.mp he with he|he
    ·exact tz e he
    ·rw[List.mem_singleton.mp he]
 rintro σ H1 ⟨g1,_,⟨x5,x6,rfl⟩,T0,hT0,ti0,tl0,tm0,tb0,tz0⟩
 rw[← hmx,List.take_length] at tm0
 have tfst:∀m∈M,∃e∈T0,e.1=m.1∧e.2.2=none:=fun m hm=>by
  have h1:=tm0 m hm
  unfold ϖy at h1
  obtain⟨e,he,e1⟩:=List.mem_map.mp h1
  exact⟨e,he,e1,tz0 e he⟩
 have hSt1:StLG N K H1 as_ S:=let ⟨xs,h1,h2⟩:=hSt;⟨xs,g1.seq h1,ϖg (fun _ _=>StG.mono g1) h2⟩
 refine⟨_,rfl,_,rfl,as_,n,rfl,hn,.inr ⟨N,S,hSt1,ls,fun vP Hq gq hP=>?_⟩⟩
 obtain⟨pd,kvp,rfl,hpd0,hpd,bk⟩:=hP
 have hTq:=hT0.mono gq
 obtain⟨kvs0,hkd0,hp0⟩:=id hTq
 refine⟨_,rfl,d,rfl,.inr ⟨kvs0,hkd0,fun bs0 lf pbs hlf=>?_⟩⟩
 have hkf:=ϵa hp0 pbs
 generalize bs0.map V.ref=yf at hkf⊢
 have glf:=ϖi hlf (.lst (yf))
 have elf:=ϖd (H:=Hq) (a:=lf) (o:=.lst (yf))
 have kb0:KB d Hq (upd Hq lf (.lst (yf))):=fun b o _ z=>glf b o z
 have hT1:=hTq.mono glf
 generalize upd Hq lf (.lst (yf))=H2 at glf elf kb0 hT1⊢
 have hqd:Hq d≠none:=by rw[hkd0];exact fun z=>nomatch z
 have gq0:Same H Hq:=g1.trans gq
 have hpdd:pd≠d:=fun z=>by rw[z] at hpd0;obtain⟨k1,k2,_⟩:=hT0;rw[k2] at hpd0;cases hpd0
 obtain⟨xs,hs1,hs2⟩:=hSt
 have hsx:S.length=xs.length:=hs2.length
 obtain⟨Rn,hRn⟩:∃N:Nat,R≤(N:Int)∧N≤999:=⟨R.toNat,by omega,by omega⟩
 have cap:∀T:List En,TI M S n f T→(∀ r∈ϖy T,0≤r∧r < R)→T.length≤Rn:=fun T ti tb=>by
  have:=ϱc Rn (ϖy T) ti.nd fun x hx=>⟨(tb x hx).1,by have:=(tb x hx).2;omega⟩
  unfold ϖy at this
  rw[List.length_map] at this;exact this
 refine⟨fun mm σ H'=>∃(lf:Addr) (fr:List Int) (yf:List V) (T:List En) (x5 x9 x10 x11:Option V),mm=2*(Rn-T.length)+min fr.length 1∧σ=[some (.ref am),some (.ref as_),some (.int n),some (.int f),some (.ref d),x5,x6,some (.ref pd),some (.ref lf),x9,x10,x11] ∧
   KB d Hq H'∧H' lf=some (.lst yf)∧Paired (RmV N Hq) fr yf∧TrDP N K H' d T∧TI M S n f T∧T0 <+: T∧(∀ m∈M,m.1∈ϖy T)∧(∀ r∈ϖy T,0≤r∧r < R)∧(∀ r∈fr,r∈ϖy T)∧(∀ r∈ϖy T,r∈fr∨DoneT S n f T r),
  ⟨_,lf,ϖy T0,yf,T0,_,_,_,_,rfl,rfl,kb0,elf,hkf,hT1,ti0,List.prefix_refl _,tm0,tb0,fun r hr=>hr,fun r hr=>.inl hr⟩,?_⟩
 clear hT1 kb0 elf glf hkf hlf lf H2 hTq yf
 rintro mm σ H2 ⟨lf,fr,yf,T,x5,x9,x10,x11,rfl,rfl,kb,elf,hyf,hT,ti,tp,tm,tb,tf,tc⟩
 refine⟨_,rfl,szl (by simp),fun l0 hl0=>?_⟩
 have gl0:=ϖi hl0 (.lst [])
 have el0:=ϖd (H:=H2) (a:=l0) (o:=.lst [])
 have kb:=kb.then gl0
 have elf:=gl0 _ _ elf
 have hT:=hT.mono gl0
 generalize upd H2 l0 (.lst [])=H3 at gl0 el0 kb elf hT⊢
 refine⟨.lst (fr.map (dRm N)),.lst [],ϰh (SqL.of elf) (ϱy (rmKb kb hkd0 hyf)),ϰh (SqL.of el0) .nil,by have:=ϱP N fr;simp only[deep];omega,_,rfl,?_⟩
 rw[ϲP]
 refine ϲG (fun hfr=>?_) (fun hfr=>?_)
 rotate_left
 ·subst hfr
  refine⟨_,rfl,q d T H3 (kb.same gq0 hd) hd hT ⟨ti,tm,fun r hr=>?_,tb,fun m hm=>by obtain⟨e,h1,h2⟩:=tfst m hm;exact⟨e,tp.subset h1,h2⟩⟩⟩
  rcases tc r hr with z|z
  ·cases z
  ·exact z
 have hfl:0 < fr.length:=List.length_pos_iff.mpr hfr
 refine⟨_,fun σ' H' z=>z,?_⟩
 refine⟨szl (by simp),fun lb hlb=>?_⟩
 have glb:=ϖi hlb (.lst [])
 have elb:=ϖd (H:=H3) (a:=lb) (o:=.lst [])
 have hlb0:Hq lb=none:=by
  cases z:Hq lb with
  |none=>rfl
  |some o=>
   by_cases y:lb=d
   ·obtain⟨k1,k2,_⟩:=hT;rw[y,k2] at hlb;cases hlb
   ·rw[kb _ _ y z] at hlb;cases hlb
 have hbf:lf≠lb:=ϖw elf hlb
 have hbd:lb≠d:=fun z=>by obtain⟨k1,k2,_⟩:=hT;rw[z,k2] at hlb;cases hlb
 have hfd:lf≠d:=fun z=>by obtain⟨k1,k2,_⟩:=hT;rw[z,k2] at elf;cases elf
 have kb:=kb.then glb
 have elf:=glb _ _ elf
 have hT:=hT.mono glb
 generalize upd H3 lb (.lst [])=H4 at glb elb kb elf hT⊢
 refine⟨_,rfl,lf,rfl,⟨_,SqL.of elf⟩,?_⟩
 refine ϑ6 (xs:=yf) (fun i σ H'=>∃(T':List En) (beh:List Int) (yb:List V) (x5 x10 x11:Option V),σ=[some (.ref am),some (.ref as_),some (.int n),some (.int f),some (.ref d),x5,x6,some (.ref pd),some (.ref lf),some (.ref lb),x10,x11] ∧
   KB d Hq H'∧H' lf=some (.lst yf)∧Paired (RmV N Hq) fr yf∧H' lb=some (.lst yb)∧Paired (RmV N Hq) beh yb∧TrDP N K H' d T'∧TI M S n f T'∧T0 <+: T'∧(∀ m∈M,m.1∈ϖy T')∧(∀ r∈ϖy T',0≤r∧r < R)∧T'.length=T.length+beh.length∧(∀ r∈fr,r∈ϖy T')∧(∀ r∈beh,r∈ϖy T')∧(∀ r∈ϖy T',r∈beh∨r∈fr.drop i∨DoneT S n f T' r))
  ⟨T,[],[],_,_,_,rfl,kb,elf,hyf,elb,.nil,hT,ti,tp,tm,tb,rfl,tf,fun r hr=>(nomatch hr),fun r hr=>.inr (tc r hr)⟩ (fun i σ H' _ z=>by obtain⟨_,_,_,_,_,_,_,_,z,_⟩:=z;exact SqL.of z) ?_ ?_
 ·clear kb elf elb hT ti tp tm tb glb gl0 el0 tf tc
  rintro i x σ H5 hx ⟨T1,beh,yb,x5',x10',x11',rfl,kb,elf,_,elb,hyb,hT,ti,tp,tm,tb,tl,tf,tbh,tc⟩
  obtain⟨r,hri,rb,rfl,hrb⟩:=ϖX hyf hx
  have hpd5:=kb _ _ hpdd hpd
  have hrT:=tf r (List.mem_of_getElem? hri)
  refine⟨_,rfl,.inr (.inr (.inl ⟨rfl,.inr ⟨kvp,hpd5⟩⟩)),_,rfl,szl (by simp),fun l1 hl1=>?_⟩
  have gl1:=ϖi hl1 (.lst [])
  have el1:=ϖd (H:=H5) (a:=l1) (o:=.lst [])
  have hl1b:l1≠lb:=(ϖw elb hl1).symm
  have hl1d:l1≠d:=fun z=>by obtain⟨k1,k2,_⟩:=hT;rw[z,k2] at hl1;cases hl1
  have kb:=kb.then gl1
  have elf:=gl1 _ _ elf
  have elb:=gl1 _ _ elb
  have hT:=hT.mono gl1
  have hpd6:=gl1 _ _ hpd5
  generalize upd H5 l1 (.lst [])=H6 at gl1 el1 kb elf elb hT hpd6⊢
  have hd1:H1 d≠none:=by obtain⟨k1,k2,_⟩:=hT0;rw[k2];exact fun z=>nomatch z
  obtain⟨la,hla1,hla2,hla3⟩:=ϲu (bk_kbP bk hd1 kb) r el1
  refine⟨pd,.ref rb,.ref l1,_,rfl,rfl,DGet.t (k:=keyR N r) hpd6 (kbT kb hkd0 hrb),?_⟩
  rw[hla1]
  have hlad:la≠d:=fun z=>by obtain⟨k1,k2,_⟩:=hT;rw[z,k2] at hla2;cases hla2
  have hlab:la≠lb:=by
   rcases hla3 with rfl|⟨z1,k,z2⟩
   ·exact hl1b
   ·obtain⟨l',ys,e,_,_,h3,_⟩:=bk.there _ _ z2
    injection e with e
    subst e
    exact ϖw h3 hlb0
  refine⟨la,rfl,⟨_,SqL.of hla2⟩,?_⟩
  refine ϑ6 (xs:=(ϑF n S r).map qV) (fun j σ H'=>∃(T':List En) (beh:List Int) (yb:List V) (x5 x11:Option V),σ=[some (.ref am),some (.ref as_),some (.int n),some (.int f),some (.ref d),x5,x6,some (.ref pd),some (.ref lf),some (.ref lb),some (.ref rb),x11] ∧
    KB d Hq H'∧H' lf=some (.lst yf)∧Paired (RmV N Hq) fr yf∧H' lb=some (.lst yb)∧Paired (RmV N Hq) beh yb∧H' la=some (.lst ((ϑF n S r).map qV))∧TrDP N K H' d T'∧TI M S n f T'∧T0 <+: T'∧(∀ m∈M,m.1∈ϖy T')∧(∀ r∈ϖy T',0≤r∧r < R)∧T'.length=T.length+beh.length∧(∀ r∈fr,r∈ϖy T')∧(∀ r∈beh,r∈ϖy T')∧(∀ r∈ϖy T',r∈beh∨r∈fr.drop i∨DoneT S n f T' r) ∧
    (∀ q∈(ϑF n S r).take j,∀t,S[q]?=some t→ϖE f t∈ϖy T'))
   ⟨T1,beh,yb,_,_,rfl,kb,elf,hyf,elb,hyb,hla2,hT,ti,tp,tm,tb,tl,tf,tbh,tc,fun q hq=>by simp at hq⟩ (fun j σ H' _ z=>by obtain⟨_,_,_,_,_,_,_,_,_,_,_,z,_⟩:=z;exact SqL.of z) ?_ ?_
  ·clear kb elf elb hT ti tp tm tb tl tf tbh tc hla2 hpd6 el1 gl1
   rintro j y σ H7 hy ⟨T2,beh,yb,x5'',x11'',rfl,kb,elf,_,elb,hyb,hla,hT,ti,tp,tm,tb,tl,tf,tbh,tc,td⟩
   rw[List.getElem?_map] at hy
   cases hqj:(ϑF n S r)[j]? with
   |none=>rw[hqj] at hy;cases hy
   |some pq=>
   rw[hqj] at hy
   injection hy with hy
   subst hy
   obtain⟨t,ht,htn⟩:=mem_placesOf.mp (List.mem_of_getElem? hqj)
   obtain⟨vt,hvt,b,c1,c2,xx,yy,rfl,hb,hc1,hc2⟩:=ϖK hs2 ht
   obtain⟨ro,hro,hrt⟩:=ϰx hf hc1 hc2
   have hrq:=gq0 _ _ hrt
   have hr7:=kbT kb hkd0 hrq
   have hb7r:=kbT kb hkd0 hrb
   have g7:=kb.same gq0 hd
   have hb7:=(Same.grow g7).seqT hb
   obtain⟨kvs,hkd,hp⟩:=id hT
   have hkl:kvs.length≤999:=by have:=cap T2 ti tb;rw[← hp.length];omega
   have hbl:beh.length≤999:=by have:=cap T2 ti tb;omega
   refine⟨_,rfl,_,rfl,_,_,_,_,rfl,rfl,g7.seq hs1,ϖM hvt,_,rfl,_,_,_,_,rfl,rfl,hb7,hro,?_⟩
   refine⟨_,rfl,_,rfl,d,_,rfl,DGet.t (k:=keyR N (ϖE f t)) hkd hr7,_,rfl,?_⟩
   have tdone:∀{T':List En},(∀ x∈ϖy T2,x∈ϖy T')→ϖE f t∈ϖy T'→∀q∈(ϑF n S r).take (j+1),∀t,S[q]?=some t→ϖE f t∈ϖy T':=fun up hin q' hq' t' ht'=>by
    rw[ϑZ hqj] at hq'
    rcases List.mem_append.mp hq' with h|h
    ·exact up _ (td q' h t' ht')
    ·rw[List.mem_singleton.mp h,ht] at ht'
     injection ht' with ht'
     rw[← ht'];exact hin
   cases hv:valV kvs (keyR N (ϖE f t)) with
   |some v=>
    refine iteF ?_
    have hin:ϖE f t∈ϖy T2:=Classical.byContradiction fun z=>by rw[(ϑX hp).mpr z] at hv;cases hv
    exact⟨T2,beh,yb,_,_,rfl,kb,elf,hyf,elb,hyb,hla,hT,ti,tp,tm,tb,tl,tf,tbh,tc,tdone (fun _ h=>h) hin⟩
   |none=>
    have hnot:=(ϑX hp).mp hv
    refine iteT ?_
    obtain⟨i0,e0,te,hi0,hk0,hval,hte⟩:=ϰe hp (tf r (List.mem_of_getElem? hri))
    refine⟨_,rfl,_,rfl,d,.ref te,rfl,hval▸DGet.t (k:=keyR N r) hkd hb7r,_,_,_,_,rfl,rfl,hte,rfl,_,rfl,(by show 2≤sizeLine;decide),fun p hp2=>?_⟩
    have g8:=ϖi hp2 (.tup [V.int (e0.2.1:Int),qV pq])
    have e8:=ϖd (H:=H7) (a:=p) (o:=.tup [V.int (e0.2.1:Int),qV pq])
    have kb:=kb.then g8
    have elf:=g8 _ _ elf
    have elb:=g8 _ _ elb
    have hla:=g8 _ _ hla
    have hkd:=g8 _ _ hkd
    have hp:=ϖg (fun _ _=>EnVP.gt (GT.of g8)) hp
    generalize upd H7 p (.tup [V.int (e0.2.1:Int),qV pq])=H8 at g8 e8 kb elf elb hla hkd hp⊢
    refine⟨_,rfl,_,rfl,d,_,rfl,DPut.t (k:=keyR N (ϖE f t)) hkd (g8 _ _ hr7) (szl' (by omega)),?_⟩
    have hT9:=TrDP.put (e:=(ϖE f t,e0.2.1,some pq)) hkd hp hnot e8
    have kb:=kb.here (o:=.dT (putK kvs (keyR N (ϖE f t)) (.ref p)))
    have elf:upd H8 d (.dT (putK kvs (keyR N (ϖE f t)) (.ref p))) lf=_:=(ϖs hfd).trans elf
    have elb:upd H8 d (.dT (putK kvs (keyR N (ϖE f t)) (.ref p))) lb=_:=(ϖs hbd).trans elb
    have hla:upd H8 d (.dT (putK kvs (keyR N (ϖE f t)) (.ref p))) la=_:=(ϖs hlad).trans hla
    generalize upd H8 d (.dT (putK kvs (keyR N (ϖE f t)) (.ref p)))=H9 at hT9 kb elf elb hla⊢
    refine⟨_,rfl,.inl ⟨rfl,_,SqL.of elb⟩,_,rfl,lb,_,_,rfl,rfl,elb,szl' (by rw[← hyb.length];omega),?_⟩
    have up:∀x∈ϖy T2,x∈ϖy (T2++[(ϖE f t,e0.2.1,some pq)]):=fun x hx=>by rw[ϑJ];exact List.mem_append_left _ hx
    have hin:ϖE f t∈ϖy (T2++[(ϖE f t,e0.2.1,some pq)]):=by rw[ϑJ];exact List.mem_append_right _ (by simp)
    refine⟨T2++[(ϖE f t,e0.2.1,some pq)],beh++[ϖE f t],yb++[.ref ro],_,_,rfl,kb.new hlb0,(ϖs hbf).trans elf,hyf,ϖd,ϖD hyb (.cons ⟨ro,rfl,hrq⟩ .nil),(ϖs hlab).trans hla,TrDP.gt (ϰM elb _) (ϖs hbd.symm) hT9,
     ti.snoc hnot (.inr ⟨pq,t,rfl,ht,rfl,i0,e0,(List.getElem?_eq_some_iff.mp hi0).1,hi0,by rw[hk0,htn],rfl⟩),tp.trans (List.prefix_append _ _),fun m hm=>up _ (tm m hm),fun x hx=>?_,by rw[List.length_append,List.length_append,List.length_singleton,List.length_singleton];omega,fun x hx=>up _ (tf x hx),fun x hx=>?_,fun x hx=>?_,tdone up hin⟩
    ·rw[ϑJ] at hx
     rcases List.mem_append.mp hx with hx|hx
     ·exact tb x hx
     ·rw[List.mem_singleton.mp hx];exact bs t (List.mem_of_getElem? ht)
    ·rcases List.mem_append.mp hx with hx|hx
     ·exact up _ (tbh x hx)
     ·rw[List.mem_singleton.mp hx];exact hin
    ·rw[ϑJ] at hx
     rcases List.mem_append.mp hx with hx|hx
     ·rcases tc x hx with z|z|z
      ·exact .inl (List.mem_append_left _ z)
      ·exact .inr (.inl z)
      ·exact .inr (.inr z.snoc)
     ·exact .inl (List.mem_append_right _ hx)
  ·rintro σ H7 ⟨T2,beh,yb,x5'',x11'',rfl,kb,elf,_,elb,hyb,hla,hT,ti,tp,tm,tb,tl,tf,tbh,tc,td⟩
   rw[List.length_map,List.take_length] at td
   refine⟨T2,beh,yb,_,_,_,rfl,kb,elf,hyf,elb,hyb,hT,ti,tp,tm,tb,tl,tf,tbh,fun x hx=>?_⟩
   rcases tc x hx with z|z|z
   ·exact .inl z
   ·have e:fr.drop i=r::fr.drop (i+1):=by
     obtain⟨h1,h2⟩:=List.getElem?_eq_some_iff.mp hri
     rw[List.drop_eq_getElem_cons h1,h2]
    rw[e] at z
    rcases List.mem_cons.mp z with z|z
    ·refine .inr (.inr fun t ht hr=>?_)
     obtain⟨pq,hpq⟩:=List.getElem?_of_mem ht
     exact td pq (mem_placesOf.mpr ⟨t,hpq,by rw[hr,z]⟩) t hpq
    ·exact .inr (.inl z)
   ·exact .inr (.inr z)
 ·rintro σ H5 ⟨T1,beh,yb,x5',x10',x11',rfl,kb,elf,_,elb,hyb,hT,ti,tp,tm,tb,tl,tf,tbh,tc⟩
  rw[← hyf.length,List.drop_length] at tc
  have hc:=cap T1 ti tb
  refine⟨_,rfl,_,?_,lb,beh,yb,T1,_,_,_,_,rfl,rfl,kb,elb,hyb,hT,ti,tp,tm,tb,tbh,fun x hx=>?_⟩
  ·omega
  ·rcases tc x hx with z|z|z
   ·exact .inl z
   ·cases z
   ·exact .inr z
theorem ϕg:FnScope ["scribe"] ["scribe"] (ϖm ϖH):=⟨rfl,rfl,rfl,by decide +kernel,rfl,by decide +kernel,by decide +kernel⟩
theorem ϑ_ (B:Bi mg) {ϖc ϖu ϖo ϖh ϖe ϖb ϖl ϖf ϖn:Addr} (XB:Xb K mg ϖc ϖu ϖo ϖh ϖe ϖb ϖl ϖf ϖn) (ϑi:Cal P w K mg base "traces_from" ["marks","steps","near","far"] 2 (ϕH K)) {f:Addr}{fd:FuncData} (F:Fun K "traces_from_begins" "traces_from_begins" ϖH f fd):FnOk P w K mg base CX0 3 f fd ["scribe"] (ϵw K):=by
 refine F.ok ϕg (fun vs H Q E h=>?_) (fun cdv A outer s H vs Q E hr h=>?_)
 ·obtain⟨N,v,s,pb,ps,pe,rfl,_⟩:=h;rfl
 obtain⟨N,v,s,pb,ps,pe,rfl,hV,ok,q⟩:=h
 refine⟨_,(ϖq (ϖP (ϖ9 ϑi hr (by decide:2≤2) (by rfl) (ϖa (hs:=ϖJ) (ϖv (kIx (K:=K) rIxT ϖp) (pv 0) (ϖt (by rfl) B.BEGINS) (by intro _ _;rfl)) (ϖa (hs:=ϖJ) (ϖv (kIx (K:=K) rIxT ϖp) (pv 0) (ϖt (by rfl) B.STEPS) (by intro _ _;rfl)) (ϖa (ϖt (by rfl) B.OUT_OF) (ϖa (ϖt (by rfl) B.INTO) ϖk))))))),?_⟩
 obtain⟨a,zz,xb,xs,xe,rfl,h1,h2,h3,h4,h5,h6,h7⟩:=hV
 exact⟨_,rfl,_,_,_,_,rfl,rfl,h1,rfl,_,rfl,_,_,_,_,rfl,rfl,h1,rfl,N,pb,s.begins,ps,s.steps,0,3,s.rooms,rfl,⟨xb,h2,h5⟩,⟨xs,h3,h6⟩,ok.lb,ok.ls,.inl rfl,.inr rfl,ok.lr,ok.mb,ok.side (.inr rfl),q⟩
theorem ϕR:FnScope ["scribe"] ["scribe"] (ϖm ϖZ):=⟨rfl,rfl,rfl,by decide +kernel,rfl,by decide +kernel,by decide +kernel⟩
theorem ϕM (B:Bi mg) {ϖc ϖu ϖo ϖh ϖe ϖb ϖl ϖf ϖn:Addr} (XB:Xb K mg ϖc ϖu ϖo ϖh ϖe ϖb ϖl ϖf ϖn) (ϑi:Cal P w K mg base "traces_from" ["marks","steps","near","far"] 2 (ϕH K)) {f:Addr}{fd:FuncData} (F:Fun K "traces_to_ends" "traces_to_ends" ϖZ f fd):FnOk P w K mg base CX0 3 f fd ["scribe"] (ϵB K):=by
 refine F.ok ϕR (fun vs H Q E h=>?_) (fun cdv A outer s H vs Q E hr h=>?_)
 ·obtain⟨N,v,s,pb,ps,pe,rfl,_⟩:=h;rfl
 obtain⟨N,v,s,pb,ps,pe,rfl,hV,ok,q⟩:=h
 refine⟨_,(ϖq (ϖP (ϖ9 ϑi hr (by decide:2≤2) (by rfl) (ϖa (hs:=ϖJ) (ϖv (kIx (K:=K) rIxT ϖp) (pv 0) (ϖt (by rfl) B.ENDS) (by intro _ _;rfl)) (ϖa (hs:=ϖJ) (ϖv (kIx (K:=K) rIxT ϖp) (pv 0) (ϖt (by rfl) B.STEPS) (by intro _ _;rfl)) (ϖa (ϖt (by rfl) B.INTO) (ϖa (ϖt (by rfl) B.OUT_OF) ϖk))))))),?_⟩
 obtain⟨a,zz,xb,xs,xe,rfl,h1,h2,h3,h4,h5,h6,h7⟩:=hV
 exact⟨_,rfl,_,_,_,_,rfl,rfl,h1,rfl,_,rfl,_,_,_,_,rfl,rfl,h1,rfl,N,pe,s.ends,ps,s.steps,3,0,s.rooms,rfl,⟨xe,h4,h7⟩,⟨xs,h3,h6⟩,ok.le,ok.ls,.inr rfl,.inl rfl,ok.lr,ok.me,ok.side (.inl rfl),q⟩
theorem sc_trail_of:FnScope ["room","traces","steps","near","trail","place"] ["room","traces","steps","near"] (ϖm ϑO):=⟨rfl,rfl,rfl,by decide +kernel,rfl,by decide +kernel,by decide +kernel⟩
theorem ϱe (B:Bi mg) {ϖc ϖu ϖo ϖh ϖe ϖb ϖl ϖf ϖn:Addr} (XB:Xb K mg ϖc ϖu ϖo ϖh ϖe ϖb ϖl ϖf ϖn)  {f:Addr}{fd:FuncData} (F:Fun K "trail_of" "trail_of" ϑO f fd):FnOk P w K mg base CX0 1 f fd ["room","traces","steps","near"] (ϵc K):=by
 refine F.ok sc_trail_of (fun vs H Q E h=>?_) (fun cdv A outer s H vs Q E hr h=>?_)
 ·obtain⟨N,rb,d,as_,n,f,R,T,M,S,r,rfl,_⟩:=h;rfl
 obtain⟨N,rb,d,as_,n,f,R,T,M,S,r,rfl,hn,⟨xs,hs1,hs2⟩,hT,tr,r9,hrb,hrT,q⟩:=h
 refine⟨_,(ϖj (ϖx (i:=4) sc_trail_of.nd rfl (Or.inl rfl) (ϑz ϖk))
   (ϖj (ϖx (i:=5) sc_trail_of.nd rfl (Or.inl rfl) (ϖv (kIx (K:=K) rIxT ϖp) (ϑv (ϑx hr) (pv 1) (pv 0) (by intro _ _;rfl)) ϖr (by intro _ _;rfl)))
   (ϖj (ϱM PassesOwn.never (ϑp ϲ0 (pv 5) ϑW (ϑH _)) (ϖj (ϑ5 (kPE (K:=K) (fun k=>tBM k _ _ _ _) (ϕY PySem.F.plainAttrs_list PySem.F.slot_list_append PySem.F.type_list_append ϑG (pv 4) (ϖa (pv 5) ϖk))))
   (ϖq (ϖx (i:=5) sc_trail_of.nd rfl (Or.inl rfl) (ϖv (kIx (K:=K) rIxT ϖp) (ϑv (ϑx hr) (pv 1) (ϖv (kIx (K:=K) rIxT ϖp) (ϖv (kIx (K:=K) rIxL ϖW) (pv 2) (pv 5) (by intro _ _;rfl)) (pv 3) (by intro _ _;rfl)) (by intro _ _;rfl)) ϖr (by intro _ _;rfl))))))
   (ϖq (ϖP (pv 4)))))),?_⟩
 have lT:=ϵu tr r9
 refine⟨szl (by simp),fun lt hlt=>?_⟩
 have gl:=ϖi hlt (.lst [])
 have el:=ϖd (H:=H) (a:=lt) (o:=.lst [])
 generalize upd H lt (.lst [])=H1 at gl el⊢
 obtain⟨i0,e0,t0,hi0,_,hg0,ht0⟩:=ϕt (hT.mono gl) hrT (gl _ _ hrb)
 have hi0l:i0 < T.length:=(List.getElem?_eq_some_iff.mp hi0).1
 refine⟨_,rfl,_,rfl,d,_,rfl,hg0,_,_,_,_,rfl,rfl,ht0,rfl,?_⟩
 refine⟨fun mm σ H'=>∃i e,∃qs:List Nat,mm=i+1∧T[i]?=some e∧σ=[some (.ref rb),some (.ref d),some (.ref as_),some (.int n),some (.ref lt),some (optN e.2.2)]∧Same H H'∧H' lt=some (.lst (qs.map qV))∧(∀ q∈qs,q < S.length)∧qs.length+i+1≤T.length,
  ⟨_,i0,e0,[],rfl,hi0,rfl,gl,el,fun _ z=>(nomatch z),by simp;omega⟩,?_⟩
 rintro mm σ H2 ⟨i,e,qs,rfl,he,rfl,g2,el2,hq,lq⟩
 rcases tr.ti.en i e he with⟨hno,_⟩|⟨qq,st,hqq,hs,_,j,e',hj,he',hnn,_⟩
 ·rw[hno]
  refine⟨_,rfl,rfl,_,rfl,ϲG (fun c=>absurd rfl c) (fun _=>?_)⟩
  exact⟨_,rfl,q lt H2 qs g2 hlt el2 hq (by omega)⟩
 ·rw[hqq]
  refine⟨_,rfl,rfl,_,rfl,ϲG (fun _=>?_) (fun c=>nomatch c)⟩
  refine⟨_,fun σ' H' z=>z,?_⟩
  have hqs:qq < S.length:=(List.getElem?_eq_some_iff.mp hs).1
  refine⟨_,rfl,.inl ⟨rfl,_,SqL.of el2⟩,_,rfl,lt,_,qV qq,rfl,rfl,el2,szl' (by rw[List.length_map];omega),?_⟩
  have g3:=ϖA (o:=.lst (qs.map qV++[qV qq])) g2 hlt
  have el3:=ϖd (H:=H2) (a:=lt) (o:=.lst (qs.map qV++[qV qq]))
  generalize upd H2 lt (.lst (qs.map qV++[qV qq]))=H3 at g3 el3⊢
  obtain⟨vt,hvt,b,c1,c2,xx,yy,rfl,hb,hc1,hc2⟩:=ϖK hs2 hs
  obtain⟨ra,hra,hrt⟩:=ϰx (x:=xx) (y:=yy) hn (g3 _ _ hc1) (g3 _ _ hc2)
  have hkey:ϖE n st∈ϖy T:=by unfold ϖy;exact List.mem_map.mpr ⟨e',List.mem_of_getElem? he',hnn⟩
  obtain⟨i3,e3,t3,hi3,hk3,hg3,ht3⟩:=ϕt (hT.mono g3) hkey hrt
  have ij:i3=j:=by
   have nd:=tr.ti.nd
   unfold ϖy at nd
   have h1:(T.map (·.1))[i3]?=some (ϖE n st):=by rw[List.getElem?_map,hi3];exact congrArg some hk3
   have h2:(T.map (·.1))[j]?=some (ϖE n st):=by rw[List.getElem?_map,he'];exact congrArg some hnn
   exact(List.getElem?_inj (List.getElem?_eq_some_iff.mp h1).1 nd).mp (h1.trans h2.symm)
  subst ij
  refine⟨_,rfl,_,rfl,_,rfl,_,_,_,_,rfl,rfl,g3.seq hs1,ϖM hvt,_,rfl,_,_,_,_,rfl,rfl,(Same.grow g3).seqT hb,hra,d,_,rfl,hg3,_,_,_,_,rfl,rfl,ht3,rfl,?_⟩
  refine⟨_,?_,i3,e3,qs++[qq],rfl,hi3,rfl,g3,by rw[el3,List.map_append];rfl,fun x hx=>?_,by rw[List.length_append,List.length_singleton];omega⟩
  ·omega
  ·rcases List.mem_append.mp hx with hx|hx
   ·exact hq x hx
   ·rw[List.mem_singleton.mp hx];exact hqs
theorem ϕo:FnScope ["scribe"] ["scribe"] (ϖm ϖL):=⟨rfl,rfl,rfl,by decide +kernel,rfl,by decide +kernel,by decide +kernel⟩
theorem ϕn (B:Bi mg) {ϖc ϖu ϖo ϖh ϖe ϖb ϖl ϖf ϖn:Addr} (XB:Xb K mg ϖc ϖu ϖo ϖh ϖe ϖb ϖl ϖf ϖn)  {f:Addr}{fd:FuncData} (F:Fun K "refuse_many_rooms" "refuse_many_rooms" ϖL f fd):FnOk P w K mg base (CX1 P w) 1 f fd ["scribe"] (spMR K ϖb):=by
 refine Fun.ok1 F ϕo (fun vs H Q E h=>?_) (fun cdv A outer s H vs Q E hr h=>?_)
 ·obtain⟨v,s,pb,ps,pe,rfl,_⟩:=h;rfl
 obtain⟨v,s,pb,ps,pe,rfl,hV,q,hE⟩:=h
 refine⟨_,(ϖq (ϑ3 (ϑp ϲD (ϖv (kIx (K:=K) rIxT ϖp) (pv 0) (ϖt (by rfl) B.ROOMS) (by intro _ _;rfl)) (ϖt (by rfl) B.MOST_ROOMS_WITH_CHOICES) (ϑH _)) (ϖq (ϵ4 XB.own_TooMany (by rfl) (by rfl) ϵS ϱL)) ϑc)),?_⟩
 obtain⟨a,xb,xs,xe,rfl,h1,h2,h3,h4,h5,h6,h7⟩:=hV
 refine⟨_,rfl,_,_,_,_,rfl,rfl,h1,rfl,_,_,rfl,rfl,_,rfl,ϕL (fun c=>?_) (fun c=>?_)⟩
 ·exact⟨rfl,hE (by omega)⟩
 ·exact q (by omega)
theorem sc_two_of_each:FnScope ["keys","counts","places","place","key"] ["keys"] (ϖm ϑe):=⟨rfl,rfl,rfl,by decide +kernel,rfl,by decide +kernel,by decide +kernel⟩
theorem ϰm (B:Bi mg) {ϖc ϖu ϖo ϖh ϖe ϖb ϖl ϖf ϖn:Addr} (XB:Xb K mg ϖc ϖu ϖo ϖh ϖe ϖb ϖl ϖf ϖn)  {f:Addr}{fd:FuncData} (F:Fun K "two_of_each" "two_of_each" ϑe f fd):FnOk P w K mg base CX0 1 f fd ["keys"] (ϵN K):=by
 refine F.ok sc_two_of_each (fun vs H Q E h=>?_) (fun cdv A outer s H vs Q E hr h=>?_)
 ·obtain⟨p,xs,rfl,_⟩:=h;rfl
 obtain⟨p,xs,rfl,hL,h9,hk,q⟩:=h
 refine⟨_,(ϖj (ϖx (i:=1) sc_two_of_each.nd rfl (Or.inl rfl) (ϲO ϰA ϕE))
   (ϖj (ϖx (i:=2) sc_two_of_each.nd rfl (Or.inl rfl) (ϑz ϖk))
   (ϖj (ϑI PassesOwn.never (by rfl) (kPI (K:=K) (fun k=>iEnu k _) (ϰr (by rfl) B.enumerate (ϖa (pv 0) ϖk))) (kPG (K:=K) (fun k=>gTup k 2 _) (ϕW (n:=2) (by rfl) (ϖ3 (ϖF (i:=3) sc_two_of_each.nd rfl (Or.inl rfl)) (ϖ3 (ϖF (i:=4) sc_two_of_each.nd rfl (Or.inl rfl)) ϕd)))) (ϖj (ϕy (ϑx hr) (pv 1) (pv 4) (ϑn ϱE (kPE (K:=K) (fun k=>tBM k _ _ _ _) (ϕY PySem.F.plainAttrs_dict PySem.F.slot_dict_get PySem.F.type_dict_get (ϱ5 hr) (pv 1) (ϖa (pv 4) (ϖa ϖr ϖk)))) ϖr) rfl)
   (ϖq (ϑ3 (ϑp op_le (ϑv (ϑx hr) (pv 1) (pv 4) (by intro _ _;rfl)) ϖr (ϑH _)) (ϖq (ϑ5 (kPE (K:=K) (fun k=>tBM k _ _ _ _) (ϕY PySem.F.plainAttrs_list PySem.F.slot_list_append PySem.F.type_list_append ϑG (pv 2) (ϖa (pv 3) ϖk))))) ϑc))))
   (ϖq (ϖP (pv 2)))))),?_⟩
 rcases hk with hk|hk
 ·refine .inl fun d hd=>?_
  have gd:=ϖi hd (.dK [])
  have ed:=ϖd (H:=H) (a:=d) (o:=.dK [])
  generalize upd H d (.dK [])=H1 at gd ed⊢
  refine⟨szl (by simp),fun lp hlp=>?_⟩
  have gp:=ϖi hlp (.lst [])
  have ep:=ϖd (H:=H1) (a:=lp) (o:=.lst [])
  have g1:=gd.trans gp
  have ed:=gp _ _ ed
  have hlp0:H lp=none:=gd.free hlp
  have hdl:lp≠d:=(ϖw (a:=d) (b:=lp) (by rw[← ed,ϖs (fun z=>by rw[z,ϖd] at ed;cases ed)]) hlp).symm
  generalize upd H1 lp (.lst [])=H2 at gp ep g1 ed⊢
  refine⟨_,rfl,p,rfl,⟨xs,g1.seq hL⟩,?_⟩
  refine ϑ8 (xs:=xs) (fun i σ H'=>Same H H'∧i≤xs.length∧(∃ x y,σ=[some (.ref p),some (.ref d),some (.ref lp),x,y])∧(∃ kvs,H' d=some (.dK kvs)∧kvs.length≤i∧∀k v,valV kvs k=some v→∃c:Int,v=.int c)∧∃ns:List Nat,H' lp=some (.lst (ns.map qV))∧(∀ q∈ns,q < xs.length)∧ns.length≤i)
   ⟨g1,Nat.zero_le _,⟨_,_,rfl⟩,⟨[],ed,Nat.le_refl _,fun k v z=>by cases z⟩,[],ep,fun _ z=>(nomatch z),Nat.le_refl _⟩ (fun i σ H' _ z=>z.1.seq hL) ?_ ?_
  ·rintro i x p0 σ H3 hx ⟨g3,hi,⟨x3,x4,rfl⟩,⟨kvs,ek,lk,hv⟩,ns,en,hn,ln⟩ hp0
   obtain⟨n,rfl⟩:=hk x (List.mem_of_getElem? hx)
   have hil:i < xs.length:=(List.getElem?_eq_some_iff.mp hx).1
   have gt0:=ϖi hp0 (.tup [V.int i,.int n])
   have et0:=ϖd (H:=H3) (a:=p0) (o:=.tup [V.int i,.int n])
   have g3:=g3.trans gt0
   have ek:=gt0 _ _ ek
   have en:=gt0 _ _ en
   generalize upd H3 p0 (.tup [V.int i,.int n])=H4 at gt0 et0 g3 ek en⊢
   refine⟨p0,_,rfl,SqT.of et0,rfl,_,_,rfl,_,_,rfl,rfl,?_⟩
   obtain⟨c,hc⟩:∃c:Int,(valV kvs (Sum.inl n)).getD (.int 0)=.int c:=by
    cases hvk:valV kvs (Sum.inl n) with
    |none=>exact⟨0,rfl⟩
    |some v=>obtain⟨c,rfl⟩:=hv _ _ hvk;exact⟨c,rfl⟩
   refine⟨_,rfl,.inr (.inr (.inl ⟨rfl,.inl ⟨kvs,ek⟩⟩)),_,rfl,d,.int n,.int 0,_,rfl,rfl,DGet.k (k:=Sum.inl n) ek,?_⟩
   rw[hc]
   refine⟨_,_,rfl,rfl,_,rfl,_,rfl,d,_,rfl,DPut.k (k:=Sum.inl n) ek (szl' (by omega)),?_⟩
   have hv2:valV (putK kvs (Sum.inl n) (V.int (c+1))) (Sum.inl n)=some (V.int (c+1)):=by rw[ϑ1,if_pos rfl]
   have hl2:=ϑd kvs (Sum.inl n) (V.int (c+1))
   have hv3:∀k v,valV (putK kvs (Sum.inl n) (V.int (c+1))) k=some v→∃c:Int,v=.int c:=fun k v z=>by
    rw[ϑ1] at z
    by_cases e:k=(Sum.inl n)
    ·rw[if_pos e] at z;injection z with z;exact⟨_,z.symm⟩
    ·rw[if_neg e] at z;exact hv k v z
   have ek2:=ϖd (H:=H4) (a:=d) (o:=.dK (putK kvs (Sum.inl n) (V.int (c+1))))
   have en2:upd H4 d (.dK (putK kvs (Sum.inl n) (V.int (c+1)))) lp=some (.lst (ns.map qV)):=(ϖs hdl).trans en
   have g5:=ϖA (o:=.dK (putK kvs (Sum.inl n) (V.int (c+1)))) g3 hd
   generalize upd H4 d (.dK (putK kvs (Sum.inl n) (V.int (c+1))))=H5 at ek2 en2 g5⊢
   refine⟨_,rfl,_,rfl,d,_,rfl,hv2▸DGet.k (k:=Sum.inl n) ek2,_,_,rfl,rfl,_,rfl,ϕL (fun _=>?_) (fun _=>⟨g5,hil,⟨_,_,rfl⟩,⟨_,ek2,by omega,hv3⟩,ns,en2,hn,by omega⟩)⟩
   refine⟨_,rfl,.inl ⟨rfl,_,SqL.of en2⟩,_,rfl,lp,_,qV i,rfl,rfl,en2,szl' (by rw[List.length_map];omega),?_⟩
   refine⟨ϖA g5 hlp0,hil,⟨_,_,rfl⟩,⟨_,(ϖs hdl.symm).trans ek2,by omega,hv3⟩,ns++[i],by rw[ϖd,List.map_append];rfl,fun q hq=>?_,by rw[List.length_append,List.length_singleton];omega⟩
   rcases List.mem_append.mp hq with hq|hq
   ·exact hn q hq
   ·rw[List.mem_singleton.mp hq];exact hil
  rintro σ H3 ⟨g3,_,⟨x3,x4,rfl⟩,_,ns,en,hn,ln⟩
  exact⟨_,rfl,q lp H3 ns g3 hlp0 en hn ln⟩
 ·refine .inr fun d hd=>?_
  have gd:=ϖi hd (.dT [])
  have ed:=ϖd (H:=H) (a:=d) (o:=.dT [])
  generalize upd H d (.dT [])=H1 at gd ed⊢
  refine⟨szl (by simp),fun lp hlp=>?_⟩
  have gp:=ϖi hlp (.lst [])
  have ep:=ϖd (H:=H1) (a:=lp) (o:=.lst [])
  have g1:=gd.trans gp
  have ed:=gp _ _ ed
  have hlp0:H lp=none:=gd.free hlp
  have hdl:lp≠d:=(ϖw (a:=d) (b:=lp) (by rw[← ed,ϖs (fun z=>by rw[z,ϖd] at ed;cases ed)]) hlp).symm
  generalize upd H1 lp (.lst [])=H2 at gp ep g1 ed⊢
  refine⟨_,rfl,p,rfl,⟨xs,g1.seq hL⟩,?_⟩
  refine ϑ8 (xs:=xs) (fun i σ H'=>Same H H'∧i≤xs.length∧(∃ x y,σ=[some (.ref p),some (.ref d),some (.ref lp),x,y])∧(∃ kvs,H' d=some (.dT kvs)∧kvs.length≤i∧∀k v,valV kvs k=some v→∃c:Int,v=.int c)∧∃ns:List Nat,H' lp=some (.lst (ns.map qV))∧(∀ q∈ns,q < xs.length)∧ns.length≤i)
   ⟨g1,Nat.zero_le _,⟨_,_,rfl⟩,⟨[],ed,Nat.le_refl _,fun k v z=>by cases z⟩,[],ep,fun _ z=>(nomatch z),Nat.le_refl _⟩ (fun i σ H' _ z=>z.1.seq hL) ?_ ?_
  ·rintro i x p0 σ H3 hx ⟨g3,hi,⟨x3,x4,rfl⟩,⟨kvs,ek,lk,hv⟩,ns,en,hn,ln⟩ hp0
   obtain⟨b,ks,rfl,hb⟩:=hk x (List.mem_of_getElem? hx)
   have hil:i < xs.length:=(List.getElem?_eq_some_iff.mp hx).1
   have gt0:=ϖi hp0 (.tup [V.int i,.ref b])
   have et0:=ϖd (H:=H3) (a:=p0) (o:=.tup [V.int i,.ref b])
   have g3:=g3.trans gt0
   have ek:=gt0 _ _ ek
   have en:=gt0 _ _ en
   generalize upd H3 p0 (.tup [V.int i,.ref b])=H4 at gt0 et0 g3 ek en⊢
   have hb4:=g3 _ _ hb
   refine⟨p0,_,rfl,SqT.of et0,rfl,_,_,rfl,_,_,rfl,rfl,?_⟩
   obtain⟨c,hc⟩:∃c:Int,(valV kvs ks).getD (.int 0)=.int c:=by
    cases hvk:valV kvs ks with
    |none=>exact⟨0,rfl⟩
    |some v=>obtain⟨c,rfl⟩:=hv _ _ hvk;exact⟨c,rfl⟩
   refine⟨_,rfl,.inr (.inr (.inl ⟨rfl,.inr ⟨kvs,ek⟩⟩)),_,rfl,d,.ref b,.int 0,_,rfl,rfl,DGet.t ek hb4,?_⟩
   rw[hc]
   refine⟨_,_,rfl,rfl,_,rfl,_,rfl,d,_,rfl,DPut.t ek hb4 (szl' (by omega)),?_⟩
   have hv2:valV (putK kvs ks (V.int (c+1))) ks=some (V.int (c+1)):=by rw[ϑ1,if_pos rfl]
   have hl2:=ϑd kvs ks (V.int (c+1))
   have hv3:∀k v,valV (putK kvs ks (V.int (c+1))) k=some v→∃c:Int,v=.int c:=fun k v z=>by
    rw[ϑ1] at z
    by_cases e:k=ks
    ·rw[if_pos e] at z;injection z with z;exact⟨_,z.symm⟩
    ·rw[if_neg e] at z;exact hv k v z
   have ek2:=ϖd (H:=H4) (a:=d) (o:=.dT (putK kvs ks (V.int (c+1))))
   have en2:upd H4 d (.dT (putK kvs ks (V.int (c+1)))) lp=some (.lst (ns.map qV)):=(ϖs hdl).trans en
   have g5:=ϖA (o:=.dT (putK kvs ks (V.int (c+1)))) g3 hd
   have hb5:=g5 _ _ hb
   generalize upd H4 d (.dT (putK kvs ks (V.int (c+1))))=H5 at ek2 en2 g5 hb5⊢
   refine⟨_,rfl,_,rfl,d,_,rfl,hv2▸DGet.t ek2 hb5,_,_,rfl,rfl,_,rfl,ϕL (fun _=>?_) (fun _=>⟨g5,hil,⟨_,_,rfl⟩,⟨_,ek2,by omega,hv3⟩,ns,en2,hn,by omega⟩)⟩
   refine⟨_,rfl,.inl ⟨rfl,_,SqL.of en2⟩,_,rfl,lp,_,qV i,rfl,rfl,en2,szl' (by rw[List.length_map];omega),?_⟩
   refine⟨ϖA g5 hlp0,hil,⟨_,_,rfl⟩,⟨_,(ϖs hdl.symm).trans ek2,by omega,hv3⟩,ns++[i],by rw[ϖd,List.map_append];rfl,fun q hq=>?_,by rw[List.length_append,List.length_singleton];omega⟩
   rcases List.mem_append.mp hq with hq|hq
   ·exact hn q hq
   ·rw[List.mem_singleton.mp hq];exact hil
  rintro σ H3 ⟨g3,_,⟨x3,x4,rfl⟩,_,ns,en,hn,ln⟩
  exact⟨_,rfl,q lp H3 ns g3 hlp0 en hn ln⟩
theorem sc_doubled_marks:FnScope ["marks","places","doubled","one","first","other","second"] ["marks"] (ϖm ϖ5):=⟨rfl,rfl,rfl,by decide +kernel,rfl,by decide +kernel,by decide +kernel⟩
theorem ϕ1 (B:Bi mg) {ϖc ϖu ϖo ϖh ϖe ϖb ϖl ϖf ϖn:Addr} (XB:Xb K mg ϖc ϖu ϖo ϖh ϖe ϖb ϖl ϖf ϖn) (ϑf:Cal P w K mg base "two_of_each" ["keys"] 1 (ϵN K)) {f:Addr}{fd:FuncData} (F:Fun K "doubled_marks" "doubled_marks" ϖ5 f fd):FnOk P w K mg base CX0 2 f fd ["marks"] (spDM K):=by
 refine F.ok sc_doubled_marks (fun vs H Q E h=>?_) (fun cdv A outer s H vs Q E hr h=>?_)
 ·obtain⟨N,am,M,rfl,_⟩:=h;rfl
 obtain⟨N,am,M,rfl,hN,⟨xm,hm1,hm2⟩,lm,mb,q⟩:=h
 refine⟨_,(ϖj (ϖx (i:=1) sc_doubled_marks.nd rfl (Or.inl rfl) (ϖ9 ϑf hr (by decide:1≤1) (by rfl) (ϖa (ϱi rfl (ϱD (N':=["mark"]) (js:=[none]) rfl (by decide +kernel) rfl (by decide +kernel) rfl rfl) (kPI (K:=K) (fun k=>ϕZ k _) (ϑT (pv 0))) (fun _ _ _ _ _=>(ϖF (i:=0) (show List.Nodup (["mark"]:List Str) by decide +kernel) rfl (Or.inl rfl))) (fun _ _ _ _ _=>ϱ1) (fun _ _ _ _ _=>(ϖv (kIx (K:=K) rIxT ϖp) (pv 0) ϖr (by intro _ _;rfl)))) ϖk)))
   (ϖj (ϖx (i:=2) sc_doubled_marks.nd rfl (Or.inl rfl) (ϑz ϖk))
   (ϖj (ϑI PassesOwn.never (by rfl) (kPI (K:=K) (fun k=>ϕZ k _) (ϑT (pv 1))) (ϖF (i:=3) sc_doubled_marks.nd rfl (Or.inl rfl)) (ϖj (ϖx (i:=4) sc_doubled_marks.nd rfl (Or.inl rfl) (ϖv (kIx (K:=K) rIxL ϖW) (pv 0) (pv 3) (by intro _ _;rfl)))
   (ϖq (ϑI PassesOwn.never (by rfl) (kPI (K:=K) (fun k=>ϕZ k _) (ϑT (pv 1))) (ϖF (i:=5) sc_doubled_marks.nd rfl (Or.inl rfl)) (ϖj (ϖx (i:=6) sc_doubled_marks.nd rfl (Or.inl rfl) (ϖv (kIx (K:=K) rIxL ϖW) (pv 0) (pv 5) (by intro _ _;rfl)))
   (ϖq (ϑ5 (kPE (K:=K) (fun k=>tBM k _ _ _ _) (ϕY PySem.F.plainAttrs_list PySem.F.slot_list_append PySem.F.type_list_append ϑG (pv 2) (ϖa (hs:=ϱj) (ϑb (ϖa (hs:=ϱj) (ϑb (ϖa (hs:=ϖJ) (ϖv (kIx (K:=K) rIxT ϖp) (pv 4) ϖr (by intro _ _;rfl)) (ϖa (hs:=ϖJ) (ϖv (kIx (K:=K) rIxT ϖp) (pv 6) ϖr (by intro _ _;rfl)) ϖk))) (ϖa (hs:=ϱj) (ϑb (ϖa (pv 3) (ϖa (pv 5) ϖk))) (ϖa (hs:=ϱj) (ϑb (ϖa (hs:=ϖJ) (ϖv (kIx (K:=K) rIxT ϖp) (pv 4) ϖr (by intro _ _;rfl)) (ϖa (hs:=ϖJ) (ϖv (kIx (K:=K) rIxT ϖp) (pv 6) ϖr (by intro _ _;rfl)) ϖk))) ϖk)))) ϖk))))))))))
   (ϖq (ϖP (pv 2)))))),?_⟩
 have hmx:M.length=xm.length:=hm2.length
 refine⟨_,rfl,am,rfl,⟨xm,hm1⟩,?_⟩
 refine ϕA (xs:=xm) (fun i ys τ H'=>H=H'∧(∃ x,τ=[x])∧i≤xm.length∧ys.length=i∧∀y∈ys,∃n:Int,y=.int n) ⟨rfl,⟨_,rfl⟩,Nat.zero_le _,rfl,fun _ z=>(nomatch z)⟩ (fun i ys τ H' z=>z.1▸hm1) ?_ ?_
 ·rintro i x ys τ _ hx ⟨rfl,⟨x0,rfl⟩,hi,hyl,hy⟩
  obtain⟨m,hm,b,rfl,hb⟩:=ϖX hm2 hx
  have hil:i < xm.length:=(List.getElem?_eq_some_iff.mp hx).1
  refine⟨_,rfl,_,_,_,_,rfl,rfl,hb,rfl,szl' (by omega),rfl,⟨_,rfl⟩,hil,by rw[List.length_append,hyl];rfl,fun y hy'=>?_⟩
  rcases List.mem_append.mp hy' with h|h
  ·exact hy y h
  ·exact⟨_,List.mem_singleton.mp h⟩
 rintro ks τ _ ⟨rfl,_,_,hkl,hky⟩ lk hlk
 have gk:=ϖi hlk (.lst ks)
 have ek:=ϖd (H:=H) (a:=lk) (o:=.lst ks)
 generalize upd H lk (.lst ks)=H1 at gk ek⊢
 refine⟨lk,ks,rfl,SqL.of ek,by omega,.inl hky,fun lp H2 ns g2 hlp elp hns lns=>?_⟩
 have g02:=gk.trans g2
 have hnm:∀q∈ns,q < M.length:=fun q hq=>by have:=hns q hq;omega
 refine⟨szl (by simp),fun ld hld=>?_⟩
 have hpd:lp≠ld:=ϖw elp hld
 have gd:=ϖi hld (.lst [])
 have ed:=ϖd (H:=H2) (a:=ld) (o:=.lst [])
 have hld0:H ld=none:=g02.free hld
 have elp3:=gd _ _ elp
 generalize upd H2 ld (.lst [])=H3 at gd ed elp3⊢
 refine⟨_,rfl,lp,rfl,⟨_,SqL.of elp3⟩,?_⟩
 refine ϑ6 (xs:=ns.map qV) (fun i σ H'=>Same H2 H'∧i≤ns.length∧(∃ x3 x4 x5 x6,σ=[some (.ref am),some (.ref lp),some (.ref ld),x3,x4,x5,x6])∧∃(D:List DM) (zs:List V),H' ld=some (.lst zs)∧Paired (DmV N K H') D zs∧DmOk (N*N) D∧D.length≤ns.length*i)
  ⟨gd,Nat.zero_le _,⟨_,_,_,_,rfl⟩,[],[],ed,.nil,fun _ z=>(nomatch z),Nat.zero_le _⟩ (fun i σ H' _ z=>SqL.of (z.1 _ _ elp)) ?_ ?_
 ·rintro i x σ H4 hx ⟨g4,hi,⟨x3,x4,x5,x6,rfl⟩,D,zs,ez,hD,okD,lD⟩
  rw[List.getElem?_map] at hx
  obtain⟨o,ho,rfl⟩:=Option.map_eq_some_iff.mp hx
  have hil:i < ns.length:=(List.getElem?_eq_some_iff.mp ho).1
  have hoM:=hnm o (List.mem_of_getElem? ho)
  obtain⟨v1,hv1,b1,rfl,hb1⟩:=ϖK hm2 (List.getElem?_eq_getElem hoM)
  have m1:=mb _ (List.getElem_mem hoM)
  have g04:=g02.trans g4
  refine⟨_,rfl,_,rfl,_,_,_,_,rfl,rfl,g04.seq hm1,ϖM hv1,?_⟩
  refine⟨_,rfl,lp,rfl,⟨_,SqL.of (g4 _ _ elp)⟩,?_⟩
  refine ϑ6 (xs:=ns.map qV) (fun j σ H'=>Same H2 H'∧j≤ns.length∧(∃ x5 x6,σ=[some (.ref am),some (.ref lp),some (.ref ld),some (qV o),some (.ref b1),x5,x6])∧∃(D:List DM) (zs:List V),H' ld=some (.lst zs)∧Paired (DmV N K H') D zs∧DmOk (N*N) D∧D.length≤ns.length*i+j)
   ⟨g4,Nat.zero_le _,⟨_,_,rfl⟩,D,zs,ez,hD,okD,lD⟩ (fun j σ H' _ z=>SqL.of (z.1 _ _ elp)) ?_ ?_
  ·clear ez hD okD lD D zs g4 g04
   rintro j y σ H4 hy ⟨g4,hj,⟨x5,x6,rfl⟩,D,zs,ez,hD,okD,lD⟩
   rw[List.getElem?_map] at hy
   obtain⟨o2,ho2,rfl⟩:=Option.map_eq_some_iff.mp hy
   have hjl:j < ns.length:=(List.getElem?_eq_some_iff.mp ho2).1
   have hoM2:=hnm o2 (List.mem_of_getElem? ho2)
   obtain⟨v2,hv2,b2,rfl,hb2⟩:=ϖK hm2 (List.getElem?_eq_getElem hoM2)
   have m2:=mb _ (List.getElem_mem hoM2)
   generalize M[o]=ma at hb1 m1 hv1
   generalize M[o2]=mc at hb2 m2 hv2
   have g04:=g02.trans g4
   have c1:=Same.seqT g04 hb1
   have c2:=Same.seqT g04 hb2
   have hln:ns.length*i+j≤900:=by
    have e1:ns.length*i≤ns.length*29:=Nat.mul_le_mul_left _ (by omega)
    have e2:ns.length≤30:=by omega
    omega
   refine⟨_,rfl,_,rfl,_,_,_,_,rfl,rfl,g04.seq hm1,ϖM hv2,?_⟩
   refine⟨_,rfl,.inl ⟨rfl,_,SqL.of ez⟩,_,rfl,_,_,_,_,rfl,rfl,c1,rfl,_,rfl,_,_,_,_,rfl,rfl,c2,rfl,(by show 2≤sizeLine;decide),fun t1 ht1=>?_⟩
   have k1:=ϖi ht1 (.tup [V.int ma.1,V.int mc.1])
   have f1:=ϖd (H:=H4) (a:=t1) (o:=.tup [V.int ma.1,V.int mc.1])
   dsimp only at ht1⊢
   generalize upd H4 t1 (.tup [V.int ma.1,V.int mc.1])=J1 at k1 f1⊢
   refine⟨_,rfl,_,rfl,(by show 2≤sizeLine;decide),fun t2 ht2=>?_⟩
   have k2:=ϖi ht2 (.tup [qV o,qV o2])
   have f2:=ϖd (H:=J1) (a:=t2) (o:=.tup [qV o,qV o2])
   have f1:=k2 _ _ f1
   dsimp only at ht2⊢
   generalize upd J1 t2 (.tup [qV o,qV o2])=J2 at k2 f1 f2⊢
   have kk:=k1.trans k2
   refine⟨_,rfl,_,_,_,_,rfl,rfl,Same.seqT kk c1,rfl,_,rfl,_,_,_,_,rfl,rfl,Same.seqT kk c2,rfl,(by show 2≤sizeLine;decide),fun t3 ht3=>?_⟩
   have k3:=ϖi ht3 (.tup [V.str ma.2,V.str mc.2])
   have f3:=ϖd (H:=J2) (a:=t3) (o:=.tup [V.str ma.2,V.str mc.2])
   have f1:=k3 _ _ f1
   have f2:=k3 _ _ f2
   dsimp only at ht3⊢
   generalize upd J2 t3 (.tup [V.str ma.2,V.str mc.2])=J3 at k3 f1 f2 f3⊢
   refine⟨(by show 3≤sizeLine;decide),fun t4 ht4=>?_⟩
   have k4:=ϖi ht4 (.tup [V.ref t1,V.ref t2,V.ref t3])
   have f4:=ϖd (H:=J3) (a:=t4) (o:=.tup [V.ref t1,V.ref t2,V.ref t3])
   have f1:=k4 _ _ f1
   have f2:=k4 _ _ f2
   have f3:=k4 _ _ f3
   have kq:=(kk.trans k3).trans k4
   have ez:=kq _ _ ez
   have g4:=g4.trans kq
   have hD:=ϖg (fun _ _=>DmV.gt (GT.of kq) (TS.of kq)) hD
   generalize upd J3 t4 (.tup [V.ref t1,V.ref t2,V.ref t3])=J4 at k4 f1 f2 f3 f4 kq ez g4 hD⊢
   refine⟨ld,zs,.ref t4,rfl,rfl,ez,szl' (by rw[← hD.length];omega),?_⟩
   have gt:=ϰM ez (.lst (zs++[V.ref t4]))
   have ts:=ϲk ez (fun _ z=>nomatch z) (.lst (zs++[V.ref t4]))
   refine⟨ϖA g4 hld,hjl,⟨_,_,rfl⟩,D++[(enc N ma.1 mc.1,(o,o2),(ma.2,mc.2))],zs++[.ref t4],ϖd,ϖD (ϖg (fun _ _=>DmV.gt gt ts) hD) (.cons ⟨t4,t1,t2,t3,rfl,gt.seqT (SqT.of f4),?_,gt.seqT (SqT.of f2),gt.seqT (SqT.of f3)⟩ .nil),fun d hd=>?_,by rw[List.length_append,List.length_singleton];omega⟩
   ·show _=some (tupR N (enc N ma.1 mc.1))
    rw[ϱp m2.1 m2.2.1]
    exact ts _ _ f1
   ·rcases List.mem_append.mp hd with hd|hd
    ·exact okD d hd
    ·rw[List.mem_singleton.mp hd]
     have:=ϱx (N:=N) (R:=N) m2.1 m2.2.1 m1.1 m1.2.1
     exact⟨this.1,this.2,m1.2.2,m2.2.2⟩
  rintro σ H5 ⟨g5,_,⟨x5',x6',rfl⟩,D,zs,ez,hD,okD,lD⟩
  rw[List.length_map] at lD
  exact⟨g5,hil,⟨_,_,_,_,rfl⟩,D,zs,ez,hD,okD,by rw[Nat.mul_succ];exact lD⟩
 rintro σ H5 ⟨g5,_,⟨x3,x4,x5,x6,rfl⟩,D,zs,ez,hD,okD,lD⟩
 rw[List.length_map] at lD
 have l9:ns.length*ns.length≤30*30:=Nat.mul_le_mul (by omega) (by omega)
 exact⟨_,rfl,q ld H5 D (g02.trans g5) hld0 ⟨zs,ez,hD⟩ okD (by omega)⟩
theorem sc_places_by_sign:FnScope ["steps","found","place"] ["steps"] (ϖm ϖY):=⟨rfl,rfl,rfl,by decide +kernel,rfl,by decide +kernel,by decide +kernel⟩
theorem ϕJ (B:Bi mg) {ϖc ϖu ϖo ϖh ϖe ϖb ϖl ϖf ϖn:Addr} (XB:Xb K mg ϖc ϖu ϖo ϖh ϖe ϖb ϖl ϖf ϖn) (ϑf:Cal P w K mg base "two_of_each" ["keys"] 1 (ϵN K)) {f:Addr}{fd:FuncData} (F:Fun K "places_by_sign" "places_by_sign" ϖY f fd):FnOk P w K mg base CX0 2 f fd ["steps"] (spPS K):=by
 refine F.ok sc_places_by_sign (fun vs H Q E h=>?_) (fun cdv A outer s H vs Q E hr h=>?_)
 ·obtain⟨as_,S,rfl,_⟩:=h;rfl
 obtain⟨as_,S,rfl,⟨xs,hs1,hs2⟩,ls,q⟩:=h
 refine⟨_,(ϖj (ϖx (i:=1) sc_places_by_sign.nd rfl (Or.inl rfl) ϰA)
   (ϖj (ϑI PassesOwn.never (by rfl) (kPI (K:=K) (fun k=>ϕZ k _) (ϑT (ϖ9 ϑf hr (by decide:1≤1) (by rfl) (ϖa (ϱi rfl (ϱD (N':=["step"]) (js:=[none]) rfl (by decide +kernel) rfl (by decide +kernel) rfl rfl) (kPI (K:=K) (fun k=>ϕZ k _) (ϑT (pv 0))) (fun _ _ _ _ _=>(ϖF (i:=0) (show List.Nodup (["step"]:List Str) by decide +kernel) rfl (Or.inl rfl))) (fun _ _ _ _ _=>ϱ1) (fun _ _ _ _ _=>(ϑb (ϖa (hs:=ϖJ) (ϖv (kIx (K:=K) rIxT ϖp) (pv 0) (ϖt (by rfl) B.OUT_OF) (by intro _ _;rfl)) (ϖa (hs:=ϖJ) (ϖv (kIx (K:=K) rIxT ϖp) (pv 0) ϖr (by intro _ _;rfl)) (ϖa (hs:=ϖJ) (ϖv (kIx (K:=K) rIxT ϖp) (pv 0) (ϖt (by rfl) B.INTO) (by intro _ _;rfl)) ϖk)))))) ϖk)))) (ϖF (i:=2) sc_places_by_sign.nd rfl (Or.inl rfl)) (ϖq (ϑ5 (kPE (K:=K) (fun k=>tBM k _ _ _ _) (ϕY PySem.F.plainAttrs_list PySem.F.slot_list_append PySem.F.type_list_append ϑG (kPE (K:=K) (fun k=>tBM k _ _ _ _) (ϕY PySem.F.plainAttrs_dict PySem.F.slot_dict_setdefault PySem.F.type_dict_setdefault (ϕC hr) (pv 1) (ϖa (hs:=ϖJ) (ϖv (kIx (K:=K) rIxT ϖp) (ϖv (kIx (K:=K) rIxL ϖW) (pv 0) (pv 2) (by intro _ _;rfl)) ϖr (by intro _ _;rfl)) (ϖa (hs:=ϱW) (ϑz ϖk) ϖk)))) (ϖa (pv 2) ϖk))))))
   (ϖq (ϖP (pv 1))))),?_⟩
 have hsx:S.length=xs.length:=hs2.length
 refine fun d hd=>?_
 have gd:=ϖi hd (.dK [])
 have ed:=ϖd (H:=H) (a:=d) (o:=.dK [])
 generalize upd H d (.dK [])=H1 at gd ed⊢
 refine⟨_,rfl,as_,rfl,⟨xs,gd.seq hs1⟩,?_⟩
 refine ϕA (xs:=xs) (fun i ys τ H'=>Same H1 H'∧(∃ x,τ=[x])∧i≤xs.length∧ys.length=i∧∀y∈ys,∃b ks,y=.ref b∧H' b=some (.tup (List.map kV ks))) ⟨Same.refl _,⟨_,rfl⟩,Nat.zero_le _,rfl,fun _ z=>(nomatch z)⟩ (fun i ys τ H' z=>(gd.trans z.1).seq hs1) ?_ ?_
 ·rintro i x ys τ H2 hx ⟨g2,⟨x0,rfl⟩,hi,hyl,hy⟩
  obtain⟨t,ht,b,rfl,hb⟩:=ϖX hs2 hx
  have hil:i < xs.length:=(List.getElem?_eq_some_iff.mp hx).1
  have hb2:=Same.seqT (gd.trans g2) hb
  refine⟨_,rfl,_,_,_,_,rfl,rfl,hb2,rfl,_,rfl,_,_,_,_,rfl,rfl,hb2,rfl,_,rfl,_,_,_,_,rfl,rfl,hb2,rfl,(by show 3≤sizeLine;decide),fun p hp=>⟨szl' (by omega),g2.trans (ϖi hp _),⟨_,rfl⟩,hil,by rw[List.length_append,hyl];rfl,fun y hy'=>?_⟩⟩
  rcases List.mem_append.mp hy' with h|h
  ·obtain⟨b',ks,e1,e2⟩:=hy y h
   exact⟨b',ks,e1,ϖi hp _ _ _ e2⟩
  ·exact⟨p,[Sum.inl t.1,Sum.inr t.2.1,Sum.inl t.2.2.2],List.mem_singleton.mp h,ϖd⟩
 rintro ks τ H2 ⟨g2,_,_,hkl,hky⟩ lk hlk
 have gk:=ϖi hlk (.lst ks)
 have ek:=ϖd (H:=H2) (a:=lk) (o:=.lst ks)
 have hky:∀y∈ks,∃b kk,y=.ref b∧upd H2 lk (.lst ks) b=some (.tup (List.map kV kk)):=fun y hy=>by
  obtain⟨b,kk,e1,e2⟩:=hky y hy
  exact⟨b,kk,e1,gk _ _ e2⟩
 have g12:=g2.trans gk
 generalize upd H2 lk (.lst ks)=H3 at gk ek hky g12⊢
 refine⟨lk,ks,rfl,SqL.of ek,by omega,.inr hky,fun lp H4 ns g4 hlp elp hns lns=>?_⟩
 have g14:=g12.trans g4
 have ed4:=g14 _ _ ed
 have g04:=gd.trans g14
 have hnm:∀q∈ns,q < S.length:=fun q hq=>by have:=hns q hq;omega
 have lpd:lp≠d:=fun z=>by rw[z,g12 _ _ ed] at hlp;cases hlp
 have hlp0:H lp=none:=(gd.trans g12).free hlp
 refine⟨lp,rfl,⟨_,SqL.of elp⟩,?_⟩
 refine ϑ6 (xs:=ns.map qV) (fun i σ H'=>Same H H'∧i≤ns.length∧(∃ x,σ=[some (.ref as_),some (.ref d),x])∧H' lp=some (.lst (ns.map qV))∧∃kvs,H' d=some (.dK kvs)∧kvs.length≤i∧∀kv∈kvs,PlJ H H' d lp S.length i kv)
  ⟨g04,Nat.zero_le _,⟨_,rfl⟩,elp,[],ed4,Nat.le_refl _,fun _ z=>(nomatch z)⟩ (fun i σ H' _ z=>SqL.of z.2.2.2.1) ?_ ?_
 ·rintro i x σ H5 hx ⟨g5,hi,⟨x2,rfl⟩,elp5,kvs,ek5,lk5,hk5⟩
  rw[List.getElem?_map] at hx
  obtain⟨o,ho,rfl⟩:=Option.map_eq_some_iff.mp hx
  have hil:i < ns.length:=(List.getElem?_eq_some_iff.mp ho).1
  have hoS:=hnm o (List.mem_of_getElem? ho)
  obtain⟨v1,hv1,b1,rfl,hb1⟩:=ϖK hs2 (List.getElem?_eq_getElem hoS)
  refine⟨_,rfl,.inr (.inr (.inl ⟨rfl,.inl ⟨kvs,ek5⟩⟩)),?_⟩
  refine⟨_,rfl,_,rfl,_,_,_,_,rfl,rfl,g5.seq hs1,ϖM hv1,_,_,_,_,rfl,rfl,Same.seqT g5 hb1,rfl,szl (by simp),fun l hl=>?_⟩
  have gl:=ϖi hl (.lst [])
  have el:=ϖd (H:=H5) (a:=l) (o:=.lst [])
  have hld:l≠d:=(ϖw ek5 hl).symm
  have hlp':l≠lp:=(ϖw elp5 hl).symm
  have hl0:H l=none:=g5.free hl
  have g6:=g5.trans gl
  have elp6:=gl _ _ elp5
  have ek6:=gl _ _ ek5
  have hk6:∀kv∈kvs,PlJ H (upd H5 l (.lst [])) d lp S.length i kv:=fun kv h=>(hk5 kv h).same gl
  generalize upd H5 l (.lst [])=H6 at gl el g6 elp6 ek6 hk6⊢
  refine⟨d,V.str S[o].2.1,.ref l,rfl,rfl,.inl ⟨kvs,Sum.inr S[o].2.1,ek6,rfl,szl' (by omega),fun r hr=>?_,fun hnn=>?_⟩⟩
  ·obtain⟨kv,hkv,rfl⟩:=ϵH hr
   obtain⟨l2,qs,e,e1,e2,e3,e4,e5,e6⟩:=hk6 kv hkv
   rw[e]
   refine⟨.inl ⟨rfl,_,SqL.of e4⟩,_,rfl,l2,_,_,rfl,rfl,e4,szl' (by rw[List.length_map];omega),?_⟩
   exact⟨ϖA g6 e3,hil,⟨_,rfl⟩,(ϖs e2.symm).trans elp6,kvs,(ϖs e1.symm).trans ek6,by omega,fun kv' h'=>(hk6 kv' h').upd e5 hoS e6⟩
  ·have e3:upd H6 d (.dK (putK kvs (Sum.inr S[o].2.1) (.ref l))) l=some (.lst []):=(ϖs hld).trans el
   refine⟨.inl ⟨rfl,_,SqL.of e3⟩,_,rfl,l,[],_,rfl,rfl,e3,szl' (by simp),?_⟩
   refine⟨ϖA (ϖA g6 hd) hl0,hil,⟨_,rfl⟩,(ϖs hlp'.symm).trans ((ϖs lpd).trans elp6),putK kvs (Sum.inr S[o].2.1) (.ref l),(ϖs hld.symm).trans ϖd,by have:=ϑd kvs (Sum.inr S[o].2.1:Key) (V.ref l);omega,fun kv' h'=>?_⟩
   have hnew:∀kv:Key×V,PlJ H (upd H6 d (.dK (putK kvs (Sum.inr S[o].2.1) (.ref l)))) d lp S.length i kv→PlJ H (upd (upd H6 d (.dK (putK kvs (Sum.inr S[o].2.1) (.ref l)))) l (.lst ([]++[qV o]))) d lp S.length (i+1) kv:=fun kv h=>PlJ.upd (qs:=[]) (fun _ z=>nomatch z) hoS (Nat.zero_le _) h
   rw[ϕ3 _ hnn] at h'
   rcases List.mem_append.mp h' with h'|h'
   ·exact hnew kv' (hk6 kv' h').dict
   ·rw[List.mem_singleton.mp h']
    exact hnew _ ⟨l,[],rfl,hld,hlp',hl0,e3,fun _ z=>(nomatch z),Nat.zero_le _⟩
 rintro σ H5 ⟨g5,_,⟨x2,rfl⟩,_,kvs,ek5,lk5,hk5⟩
 rw[List.length_map] at lk5 hk5
 exact⟨_,rfl,q d H5 kvs g5 hd ek5 (by omega) fun kv h=>by
  obtain⟨l,qs,e,e1,e2,e3,e4,e5,e6⟩:=hk5 kv h
  exact⟨l,qs,e,e1,e3,e4,e5,by omega⟩⟩
theorem sc_doubled_steps:FnScope ["steps","doubled","places","one","first","other","second","start","goal"] ["steps"] (ϖm ϖ6):=⟨rfl,rfl,rfl,by decide +kernel,rfl,by decide +kernel,by decide +kernel⟩
theorem ϕX (B:Bi mg) {ϖc ϖu ϖo ϖh ϖe ϖb ϖl ϖf ϖn:Addr} (XB:Xb K mg ϖc ϖu ϖo ϖh ϖe ϖb ϖl ϖf ϖn) (ϑL:Cal P w K mg base "places_by_sign" ["steps"] 2 (spPS K)) {f:Addr}{fd:FuncData} (F:Fun K "doubled_steps" "doubled_steps" ϖ6 f fd):FnOk P w K mg base CX0 3 f fd ["steps"] (spDS K):=by
 refine F.ok sc_doubled_steps (fun vs H Q E h=>?_) (fun cdv A outer s H vs Q E hr h=>?_)
 ·obtain⟨N,as_,S,rfl,_⟩:=h;rfl
 obtain⟨N,as_,S,rfl,hN,⟨xs,hs1,hs2⟩,ls,sb,q⟩:=h
 refine⟨_,(ϖj (ϖx (i:=1) sc_doubled_steps.nd rfl (Or.inl rfl) (ϑz ϖk))
   (ϖj (ϑI PassesOwn.never (by rfl) (ϲ_ (ϖ9 ϑL hr (by decide:2≤2) (by rfl) (ϖa (pv 0) ϖk))) (ϖF (i:=2) sc_doubled_steps.nd rfl (Or.inl rfl)) (ϖq (ϑI PassesOwn.never (by rfl) (kPI (K:=K) (fun k=>ϕZ k _) (ϑT (pv 2))) (ϖF (i:=3) sc_doubled_steps.nd rfl (Or.inl rfl)) (ϖj (ϖx (i:=4) sc_doubled_steps.nd rfl (Or.inl rfl) (ϖv (kIx (K:=K) rIxL ϖW) (pv 0) (pv 3) (by intro _ _;rfl)))
   (ϖq (ϑI PassesOwn.never (by rfl) (kPI (K:=K) (fun k=>ϕZ k _) (ϑT (pv 2))) (ϖF (i:=5) sc_doubled_steps.nd rfl (Or.inl rfl)) (ϖj (ϖx (i:=6) sc_doubled_steps.nd rfl (Or.inl rfl) (ϖv (kIx (K:=K) rIxL ϖW) (pv 0) (pv 5) (by intro _ _;rfl)))
   (ϖj (ϖx (i:=7) sc_doubled_steps.nd rfl (Or.inl rfl) (ϑb (ϖa (hs:=ϖJ) (ϖv (kIx (K:=K) rIxT ϖp) (pv 4) (ϖt (by rfl) B.OUT_OF) (by intro _ _;rfl)) (ϖa (hs:=ϖJ) (ϖv (kIx (K:=K) rIxT ϖp) (pv 6) (ϖt (by rfl) B.OUT_OF) (by intro _ _;rfl)) ϖk))))
   (ϖj (ϖx (i:=8) sc_doubled_steps.nd rfl (Or.inl rfl) (ϑb (ϖa (hs:=ϖJ) (ϖv (kIx (K:=K) rIxT ϖp) (pv 4) (ϖt (by rfl) B.INTO) (by intro _ _;rfl)) (ϖa (hs:=ϖJ) (ϖv (kIx (K:=K) rIxT ϖp) (pv 6) (ϖt (by rfl) B.INTO) (by intro _ _;rfl)) ϖk))))
   (ϖq (ϑ5 (kPE (K:=K) (fun k=>tBM k _ _ _ _) (ϕY PySem.F.plainAttrs_list PySem.F.slot_list_append PySem.F.type_list_append ϑG (pv 1) (ϖa (hs:=ϱj) (ϑb (ϖa (pv 7) (ϖa (hs:=ϱj) (ϑb (ϖa (pv 3) (ϖa (pv 5) ϖk))) (ϖa (hs:=ϱj) (ϑb (ϖa (hs:=ϖJ) (ϖv (kIx (K:=K) rIxT ϖp) (pv 4) ϖr (by intro _ _;rfl)) (ϖa (hs:=ϖJ) (ϖv (kIx (K:=K) rIxT ϖp) (pv 6) ϖr (by intro _ _;rfl)) ϖk))) (ϖa (pv 8) ϖk))))) ϖk))))))))))))))
   (ϖq (ϖP (pv 1))))),?_⟩
 refine⟨szl (by simp),fun ld hld=>?_⟩
 have gd:=ϖi hld (.lst [])
 have ed:=ϖd (H:=H) (a:=ld) (o:=.lst [])
 generalize upd H ld (.lst [])=H1 at gd ed⊢
 refine⟨_,rfl,as_,S,rfl,⟨xs,gd.seq hs1,ϖg (fun _ _=>StV.mono (Same.grow gd)) hs2⟩,ls,fun d H2 kvs g2 hd ek lk hk=>⟨d,kvs,rfl,ek,fun o=>?_⟩⟩
 have ed2:=g2 _ _ ed
 have hdl:ld≠d:=fun z=>by rw[← z,ed] at hd;cases hd
 have hdl':=hdl.symm
 have hd0:H d=none:=gd.free hd
 have g02:=gd.trans g2
 have hk3:∀kv∈kvs,PlS H1 (upd H2 d (.frz o (.dK kvs))) d S.length kv:=fun kv h=>(hk kv h).oth fun l xs _ _ h=>h
 have ed3:upd H2 d (.frz o (.dK kvs)) ld=some (.lst []):=(ϖs hdl).trans ed2
 have ek3:=ϖd (H:=H2) (a:=d) (o:=.frz o (.dK kvs))
 have g03:=ϖA (o:=.frz o (.dK kvs)) g02 hd0
 generalize upd H2 d (.frz o (.dK kvs))=H3 at hk3 ed3 ek3 g03⊢
 refine ϵU (kvs:=kvs) (fun i σ H'=>Same H H'∧i≤kvs.length∧(∃ x2 x3 x4 x5 x6 x7 x8,σ=[some (.ref as_),some (.ref ld),x2,x3,x4,x5,x6,x7,x8])∧H' d=some (.frz o (.dK kvs))∧(∀ kv∈kvs,PlS H1 H' d S.length kv)∧∃(D:List DS) (zs:List V),H' ld=some (.lst zs)∧Paired (DsV N K H') D zs∧DsOk (N*N) D∧D.length≤400*i)
  ⟨g03,Nat.zero_le _,⟨_,_,_,_,_,_,_,rfl⟩,ek3,hk3,[],[],ed3,.nil,fun _ z=>(nomatch z),Nat.zero_le _⟩ (fun i σ H' _ z=>z.2.2.2.1) ?_ ?_
 ·rintro i ky y σ H4 hkv ⟨g4,hi,⟨x2,x3,x4,x5,x6,x7,x8,rfl⟩,ek4,hk4,D,zs,ez,hD,okD,lD⟩
  obtain⟨lp,ns,hy,lpd,lp1,elp,hnm,lns⟩:=hk4 _ (List.mem_of_getElem? hkv)
  have hy:y=.ref lp:=hy
  subst hy
  have hil:i < kvs.length:=(List.getElem?_eq_some_iff.mp hkv).1
  have hpl:lp≠ld:=fun z=>by rw[z,ed] at lp1;cases lp1
  have hlist:∀{G:Hp}{o':HO},(∀ kv∈kvs,PlS H1 G d S.length kv)→∀kv∈kvs,PlS H1 (upd G ld o') d S.length kv:=fun h kv hkv=>(h kv hkv).oth fun l xs _ z _ y=>by rw[y,ed] at z;cases z
  refine⟨_,rfl,lp,rfl,⟨_,SqL.of elp⟩,?_⟩
  refine ϑ6 (xs:=ns.map qV) (fun j σ H'=>Same H H'∧j≤ns.length∧(∃ x3 x4 x5 x6 x7 x8,σ=[some (.ref as_),some (.ref ld),some (.ref lp),x3,x4,x5,x6,x7,x8])∧H' d=some (.frz o (.dK kvs))∧H' lp=some (.lst (ns.map qV))∧(∀ kv∈kvs,PlS H1 H' d S.length kv)∧∃(D:List DS) (zs:List V),H' ld=some (.lst zs)∧Paired (DsV N K H') D zs∧DsOk (N*N) D∧D.length≤400*i+ns.length*j)
   ⟨g4,Nat.zero_le _,⟨_,_,_,_,_,_,rfl⟩,ek4,elp,hk4,D,zs,ez,hD,okD,lD⟩ (fun j σ H' _ z=>SqL.of z.2.2.2.2.1) ?_ ?_
  ·clear ez hD okD lD D zs ek4 hk4 elp g4
   rintro j x σ H4 hx ⟨g4,hj,⟨x3,x4,x5,x6,x7,x8,rfl⟩,ek4,elp,hk4,D,zs,ez,hD,okD,lD⟩
   rw[List.getElem?_map] at hx
   obtain⟨o1,ho1,rfl⟩:=Option.map_eq_some_iff.mp hx
   have hjl:j < ns.length:=(List.getElem?_eq_some_iff.mp ho1).1
   have hoS:=hnm o1 (List.mem_of_getElem? ho1)
   obtain⟨v1,hv1,b1,rfl,hb1⟩:=ϖK hs2 (List.getElem?_eq_getElem hoS)
   have m1:=sb _ (List.getElem_mem hoS)
   refine⟨_,rfl,_,rfl,_,_,_,_,rfl,rfl,g4.seq hs1,ϖM hv1,?_⟩
   refine⟨_,rfl,lp,rfl,⟨_,SqL.of elp⟩,?_⟩
   refine ϑ6 (xs:=ns.map qV) (fun n σ H'=>Same H H'∧n≤ns.length∧(∃ x5 x6 x7 x8,σ=[some (.ref as_),some (.ref ld),some (.ref lp),some (qV o1),some (.ref b1),x5,x6,x7,x8])∧H' d=some (.frz o (.dK kvs))∧H' lp=some (.lst (ns.map qV))∧(∀ kv∈kvs,PlS H1 H' d S.length kv)∧∃(D:List DS) (zs:List V),H' ld=some (.lst zs)∧Paired (DsV N K H') D zs∧DsOk (N*N) D∧D.length≤400*i+ns.length*j+n)
    ⟨g4,Nat.zero_le _,⟨_,_,_,_,rfl⟩,ek4,elp,hk4,D,zs,ez,hD,okD,lD⟩ (fun j σ H' _ z=>SqL.of z.2.2.2.2.1) ?_ ?_
   ·clear ez hD okD lD D zs ek4 hk4 elp g4
    rintro n x σ H4 hx ⟨g4,hn,⟨x5,x6,x7,x8,rfl⟩,ek4,elp,hk4,D,zs,ez,hD,okD,lD⟩
    rw[List.getElem?_map] at hx
    obtain⟨o2,ho2,rfl⟩:=Option.map_eq_some_iff.mp hx
    have hnl:n < ns.length:=(List.getElem?_eq_some_iff.mp ho2).1
    have hoS2:=hnm o2 (List.mem_of_getElem? ho2)
    obtain⟨v2,hv2,b2,rfl,hb2⟩:=ϖK hs2 (List.getElem?_eq_getElem hoS2)
    have m2:=sb _ (List.getElem_mem hoS2)
    generalize S[o1]=ma at hb1 m1 hv1
    generalize S[o2]=mc at hb2 m2 hv2
    have c1:=Same.seqT g4 hb1
    have c2:=Same.seqT g4 hb2
    have hln:400*i+ns.length*j+n≤8000:=by
     have e1:ns.length*j≤ns.length*19:=Nat.mul_le_mul_left _ (by omega)
     omega
    refine⟨_,rfl,_,rfl,_,_,_,_,rfl,rfl,g4.seq hs1,ϖM hv2,?_⟩
    refine⟨_,rfl,_,_,_,_,rfl,rfl,c1,rfl,_,rfl,_,_,_,_,rfl,rfl,c2,rfl,(by show 2≤sizeLine;decide),fun t1 ht1=>?_⟩
    have k1:=ϖi ht1 (.tup [V.int ma.1,V.int mc.1])
    have f1:=ϖd (H:=H4) (a:=t1) (o:=.tup [V.int ma.1,V.int mc.1])
    generalize upd H4 t1 (.tup [V.int ma.1,V.int mc.1])=J1 at k1 f1⊢
    have c1:=Same.seqT k1 c1
    have c2:=Same.seqT k1 c2
    refine⟨_,rfl,_,_,_,_,rfl,rfl,c1,rfl,_,rfl,_,_,_,_,rfl,rfl,c2,rfl,(by show 2≤sizeLine;decide),fun t0 ht0=>?_⟩
    have k0:=ϖi ht0 (.tup [V.int ma.2.2.2,V.int mc.2.2.2])
    have f0:=ϖd (H:=J1) (a:=t0) (o:=.tup [V.int ma.2.2.2,V.int mc.2.2.2])
    have f1:=k0 _ _ f1
    have k1:=k1.trans k0
    have c1:=Same.seqT k0 c1
    have c2:=Same.seqT k0 c2
    generalize upd J1 t0 (.tup [V.int ma.2.2.2,V.int mc.2.2.2])=J0 at k0 f0 f1 k1 c1 c2⊢
    refine⟨_,rfl,.inl ⟨rfl,_,SqL.of (k1 _ _ ez)⟩,_,rfl,_,rfl,_,rfl,(by show 2≤sizeLine;decide),fun t2 ht2=>?_⟩
    have k2:=ϖi ht2 (.tup [qV o1,qV o2])
    have f2:=ϖd (H:=J0) (a:=t2) (o:=.tup [qV o1,qV o2])
    have f1:=k2 _ _ f1
    have f0:=k2 _ _ f0
    dsimp only at ht2⊢
    generalize upd J0 t2 (.tup [qV o1,qV o2])=J2 at k2 f0 f1 f2⊢
    have kk:=k1.trans k2
    refine⟨_,rfl,_,_,_,_,rfl,rfl,Same.seqT k2 c1,rfl,_,rfl,_,_,_,_,rfl,rfl,Same.seqT k2 c2,rfl,(by show 2≤sizeLine;decide),fun t3 ht3=>?_⟩
    have k3:=ϖi ht3 (.tup [V.str ma.2.2.1,V.str mc.2.2.1])
    have f3:=ϖd (H:=J2) (a:=t3) (o:=.tup [V.str ma.2.2.1,V.str mc.2.2.1])
    have f0:=k3 _ _ f0
    have f1:=k3 _ _ f1
    have f2:=k3 _ _ f2
    dsimp only at ht3⊢
    generalize upd J2 t3 (.tup [V.str ma.2.2.1,V.str mc.2.2.1])=J3 at k3 f0 f1 f2 f3⊢
    refine⟨_,rfl,(by show 4≤sizeLine;decide),fun t4 ht4=>?_⟩
    have k4:=ϖi ht4 (.tup [V.ref t1,V.ref t2,V.ref t3,V.ref t0])
    have f4:=ϖd (H:=J3) (a:=t4) (o:=.tup [V.ref t1,V.ref t2,V.ref t3,V.ref t0])
    have f0:=k4 _ _ f0
    have f1:=k4 _ _ f1
    have f2:=k4 _ _ f2
    have f3:=k4 _ _ f3
    have kq:=(kk.trans k3).trans k4
    have ez:=kq _ _ ez
    have g4:=g4.trans kq
    have ek4:=kq _ _ ek4
    have elp:=kq _ _ elp
    have hk4:∀kv∈kvs,PlS H1 (upd J3 t4 (.tup [V.ref t1,V.ref t2,V.ref t3,V.ref t0])) d S.length kv:=fun kv h=>(hk4 kv h).same kq
    have hD:=ϖg (fun _ _=>DsV.gt (GT.of kq) (TS.of kq)) hD
    generalize upd J3 t4 (.tup [V.ref t1,V.ref t2,V.ref t3,V.ref t0])=J4 at k4 f0 f1 f2 f3 f4 kq ez g4 ek4 elp hk4 hD⊢
    refine⟨ld,zs,.ref t4,rfl,rfl,ez,szl' (by rw[← hD.length];omega),?_⟩
    have gt:=ϰM ez (.lst (zs++[V.ref t4]))
    have ts:=ϲk ez (fun _ z=>nomatch z) (.lst (zs++[V.ref t4]))
    refine⟨ϖA g4 hld,hnl,⟨_,_,_,_,rfl⟩,(ϖs hdl').trans ek4,(ϖs hpl).trans elp,hlist hk4,D++[(enc N ma.1 mc.1,(o1,o2),(ma.2.2.1,mc.2.2.1),enc N ma.2.2.2 mc.2.2.2)],zs++[.ref t4],ϖd,ϖD (ϖg (fun _ _=>DsV.gt gt ts) hD) (.cons ⟨t4,t1,t2,t3,t0,rfl,gt.seqT (SqT.of f4),?_,gt.seqT (SqT.of f2),gt.seqT (SqT.of f3),?_⟩ .nil),fun e he=>?_,by rw[List.length_append,List.length_singleton];omega⟩
    ·show _=some (tupR N (enc N ma.1 mc.1))
     rw[ϱp m2.1 m2.2.1]
     exact ts _ _ f1
    ·show _=some (tupR N (enc N ma.2.2.2 mc.2.2.2))
     rw[ϱp m2.2.2.2.1 m2.2.2.2.2]
     exact ts _ _ f0
    ·rcases List.mem_append.mp he with he|he
     ·exact okD e he
     ·rw[List.mem_singleton.mp he]
      have h1:=ϱx (N:=N) (R:=N) m2.1 m2.2.1 m1.1 m1.2.1
      have h2:=ϱx (N:=N) (R:=N) m2.2.2.2.1 m2.2.2.2.2 m1.2.2.2.1 m1.2.2.2.2
      exact⟨h1.1,h1.2,m1.2.2.1,m2.2.2.1,h2.1,h2.2⟩
   rintro σ H5 ⟨g5,_,⟨x5',x6',x7',x8',rfl⟩,ek5,elp5,hk5,D,zs,ez,hD,okD,lD⟩
   rw[List.length_map] at lD
   exact⟨g5,hjl,⟨_,_,_,_,_,_,rfl⟩,ek5,elp5,hk5,D,zs,ez,hD,okD,by rw[Nat.mul_succ];omega⟩
  rintro σ H5 ⟨g5,_,⟨x3',x4',x5',x6',x7',x8',rfl⟩,ek5,elp5,hk5,D,zs,ez,hD,okD,lD⟩
  rw[List.length_map] at lD
  have l9:ns.length*ns.length≤20*20:=Nat.mul_le_mul (by omega) (by omega)
  exact⟨g5,hil,⟨_,_,_,_,_,_,_,rfl⟩,ek5,hk5,D,zs,ez,hD,okD,by omega⟩
 rintro σ H5 ⟨g5,_,⟨x2,x3,x4,x5,x6,x7,x8,rfl⟩,_,_,D,zs,ez,hD,okD,lD⟩
 exact⟨_,rfl,q ld H5 D g5 hld ⟨zs,ez,hD⟩ okD (by omega)⟩
theorem sc_doubled_of:FnScope ["scribe","begins","steps","ends"] ["scribe"] (ϖm ϑt):=⟨rfl,rfl,rfl,by decide +kernel,rfl,by decide +kernel,by decide +kernel⟩
theorem ϰy (B:Bi mg) {ϖc ϖu ϖo ϖh ϖe ϖb ϖl ϖf ϖn:Addr} (XB:Xb K mg ϖc ϖu ϖo ϖh ϖe ϖb ϖl ϖf ϖn) (ϑw:Cal P w K mg base "doubled_marks" ["marks"] 2 (spDM K)) (ϑU:Cal P w K mg base "doubled_steps" ["steps"] 3 (spDS K)) {f:Addr}{fd:FuncData} (F:Fun K "doubled_of" "doubled_of" ϑt f fd):FnOk P w K mg base CX0 4 f fd ["scribe"] (spDb K):=by
 refine F.ok sc_doubled_of (fun vs H Q E h=>?_) (fun cdv A outer s H vs Q E hr h=>?_)
 ·obtain⟨v,s,pb,ps,pe,rfl,_⟩:=h;rfl
 obtain⟨v,s,pb,ps,pe,rfl,hV,ok,sh,lb,ls,le,r0,r8,q⟩:=h
 refine⟨_,(ϖj (ϖx (i:=1) sc_doubled_of.nd rfl (Or.inl rfl) (ϖ9 ϑw hr (by decide:2≤3) (by rfl) (ϖa (hs:=ϖJ) (ϖv (kIx (K:=K) rIxT ϖp) (pv 0) (ϖt (by rfl) B.BEGINS) (by intro _ _;rfl)) ϖk)))
   (ϖj (ϖx (i:=2) sc_doubled_of.nd rfl (Or.inl rfl) (ϖ9 ϑU hr (by decide:3≤3) (by rfl) (ϖa (hs:=ϖJ) (ϖv (kIx (K:=K) rIxT ϖp) (pv 0) (ϖt (by rfl) B.STEPS) (by intro _ _;rfl)) ϖk)))
   (ϖj (ϖx (i:=3) sc_doubled_of.nd rfl (Or.inl rfl) (ϖ9 ϑw hr (by decide:2≤3) (by rfl) (ϖa (hs:=ϖJ) (ϖv (kIx (K:=K) rIxT ϖp) (pv 0) (ϖt (by rfl) B.ENDS) (by intro _ _;rfl)) ϖk)))
   (ϖq (ϖP (ϑb (ϖa (hs:=ϖJ) (ϖv (kIx (K:=K) rIxT ϖp) (pv 0) (ϖt (by rfl) B.SIGNS) (by intro _ _;rfl)) (ϖa (hs:=ϱw) (ϑn ϰ5 (ϖv (kIx (K:=K) rIxT ϖp) (pv 0) (ϖt (by rfl) B.ROOMS) (by intro _ _;rfl)) (ϖv (kIx (K:=K) rIxT ϖp) (pv 0) (ϖt (by rfl) B.ROOMS) (by intro _ _;rfl))) (ϖa (pv 1) (ϖa (pv 2) (ϖa (pv 3) ϖk))))))))))),?_⟩
 obtain⟨a,xb,xs,xe,rfl,h1,h2,h3,h4,h5,h6,h7⟩:=hV
 obtain⟨N,hN,hNR,hNR2⟩:∃N:Int,0 < N∧s.rooms≤N∧N≤8:=⟨if s.rooms < 1 then 1 else s.rooms,by split<;>omega,by split<;>omega,by split<;>omega⟩
 have hNN:N*N≤64:=by
  have e1:N*N≤8*N:=Int.mul_le_mul_of_nonneg_right hNR2 (by omega)
  omega
 have hNN0:0≤N*N:=Int.mul_nonneg (by omega) (by omega)
 refine⟨_,rfl,_,_,_,_,rfl,rfl,h1,rfl,N,pb,s.begins,rfl,hN,⟨xb,h2,h5⟩,by omega,fun m hm=>⟨(ok.mb m hm).1,by have:=(ok.mb m hm).2;omega,sh.1 m hm⟩,fun lB H1 B g1 hlB ⟨zb,eb,pB⟩ okB lB9=>?_⟩
 refine⟨_,rfl,_,_,_,_,rfl,rfl,Same.seqT g1 h1,rfl,N,ps,s.steps,rfl,hN,⟨xs,g1.seq h3,ϖg (fun _ _=>StV.mono (Same.grow g1)) h6⟩,by omega,fun t ht=>⟨(ok.ms t ht).1,by have:=(ok.ms t ht).2.1;omega,(sh.2.1 t ht).2,(ok.ms t ht).2.2.1,by have:=(ok.ms t ht).2.2.2;omega⟩,fun lS H2 S g2 hlS ⟨zs,es,pS⟩ okS lS9=>?_⟩
 have g12:=g1.trans g2
 refine⟨_,rfl,_,_,_,_,rfl,rfl,Same.seqT g12 h1,rfl,N,pe,s.ends,rfl,hN,⟨xe,g12.seq h4,ϖg (fun _ _=>MkV.mono (Same.grow g12)) h7⟩,by omega,fun m hm=>⟨(ok.me m hm).1,by have:=(ok.me m hm).2;omega,sh.2.2 m hm⟩,fun lE H3 E g3 hlE ⟨ze,ee,pE⟩ okE lE9=>?_⟩
 have g13:=g12.trans g3
 have t1:=Same.seqT g13 h1
 refine⟨_,rfl,_,_,_,_,rfl,rfl,t1,rfl,_,rfl,_,_,_,_,rfl,rfl,t1,rfl,_,rfl,_,_,_,_,rfl,rfl,t1,rfl,_,_,rfl,rfl,.inl ⟨by omega,by omega⟩,_,rfl,_,rfl,_,rfl,(by show 5≤sizeLine;decide),fun v hv=>?_⟩
 have gv:=ϖi hv (.tup [V.str s.signs,V.int (s.rooms*s.rooms),V.ref lB,V.ref lS,V.ref lE])
 have G1:=(g2.trans g3).trans gv
 have G2:=g3.trans gv
 exact q N _ _ (N*N) B S E lB lS lE (g13.trans gv) ⟨v,_,zb,zs,ze,rfl,SqT.of ϖd,SqL.of (G1 _ _ eb),SqL.of (G2 _ _ es),SqL.of (gv _ _ ee),ϖg (fun _ _=>DmV.gt (GT.of G1) (TS.of G1)) pB,ϖg (fun _ _=>DsV.gt (GT.of G2) (TS.of G2)) pS,ϖg (fun _ _=>DmV.gt (GT.of gv) (TS.of gv)) pE⟩ ⟨okB,okS,okE,lB9,lS9,lE9,hNN0,by omega⟩
theorem ϕf:FnScope ["ahead","behind"] ["ahead","behind"] (ϖm ϖI):=⟨rfl,rfl,rfl,by decide +kernel,rfl,by decide +kernel,by decide +kernel⟩
theorem ϕc (B:Bi mg) {ϖc ϖu ϖo ϖh ϖe ϖb ϖl ϖf ϖn:Addr} (XB:Xb K mg ϖc ϖu ϖo ϖh ϖe ϖb ϖl ϖf ϖn)  {f:Addr}{fd:FuncData} (F:Fun K "behind_one_another" "behind_one_another" ϖI f fd):FnOk P w K mg base CX0 1 f fd ["ahead","behind"] (spB1 K):=by
 refine F.ok ϕf (fun vs H Q E h=>?_) (fun cdv A outer s H vs Q E hr h=>?_)
 ·obtain⟨p,q,a,b,c,d,rfl,_⟩:=h;rfl
 obtain⟨p,p2,a,b,c,d,rfl,h1,h2,l1,l2,q⟩:=h
 refine⟨_,(ϖq (ϖP (ϑb (ϖa (hs:=ϱw) (ϑn ϕk (ϖv (kIx (K:=K) rIxT ϖp) (pv 0) ϖr (by intro _ _;rfl)) (ϖv (kIx (K:=K) rIxT ϖp) (pv 1) ϖr (by intro _ _;rfl))) (ϖa (hs:=ϱw) (ϑn ϕk (ϖv (kIx (K:=K) rIxT ϖp) (pv 0) ϖr (by intro _ _;rfl)) (ϖv (kIx (K:=K) rIxT ϖp) (pv 1) ϖr (by intro _ _;rfl))) ϖk))))),?_⟩
 refine⟨_,rfl,_,_,_,_,rfl,rfl,h1,rfl,_,rfl,_,_,_,_,rfl,rfl,h2,rfl,_,_,rfl,rfl,szl (by omega),_,rfl,_,_,_,_,rfl,rfl,h1,rfl,_,rfl,_,_,_,_,rfl,rfl,h2,rfl,_,_,rfl,rfl,szl (by omega),(by show 2≤sizeLine;decide),fun t ht=>?_⟩
 exact q t _ (ϖi ht _) ϖd
theorem sc_words_ahead:FnScope ["double","ahead","words","pair","trace","step"] ["double","ahead"] (ϖm ϑk):=⟨rfl,rfl,rfl,by decide +kernel,rfl,by decide +kernel,by decide +kernel⟩
theorem ϰn (B:Bi mg) {ϖc ϖu ϖo ϖh ϖe ϖb ϖl ϖf ϖn:Addr} (XB:Xb K mg ϖc ϖu ϖo ϖh ϖe ϖb ϖl ϖf ϖn) (ϖz:Cal P w K mg base "behind_one_another" ["ahead","behind"] 1 (spB1 K)) {f:Addr}{fd:FuncData} (F:Fun K "words_ahead" "words_ahead" ϑk f fd):FnOk P w K mg base CX0 2 f fd ["double","ahead"] (spWA K):=by
 refine F.ok sc_words_ahead (fun vs H Q E h=>?_) (fun cdv A outer s H vs Q E hr h=>?_)
 ·obtain⟨N,v,g,R,B,S,E,pb,ps,pe,d,T,rfl,_⟩:=h;rfl
 obtain⟨N,v,g,R,Bm,S,Em,pb,ps,pe,d,T,rfl,hV,ok,⟨o,kvs,ed,hT⟩,tr,q⟩:=h
 refine⟨_,(ϖj (ϖx (i:=2) sc_words_ahead.nd rfl (Or.inl rfl) ϕE)
   (ϖj (ϑI PassesOwn.never (by rfl) (ϰU (pv 1)) (kPG (K:=K) (fun k=>gTup k 2 _) (ϕW (n:=2) (by rfl) (ϖ3 (ϖF (i:=3) sc_words_ahead.nd rfl (Or.inl rfl)) (ϖ3 (ϖF (i:=4) sc_words_ahead.nd rfl (Or.inl rfl)) ϕd)))) (ϖq (ϑ3 (ϑp ϰs (ϖv (kIx (K:=K) rIxT ϖp) (pv 4) ϖr (by intro _ _;rfl)) ϑW (ϑH _)) (ϖq (ϕy (ϑx hr) (pv 2) (pv 3) (ϖv (kIx (K:=K) rIxT ϖp) (ϖv (kIx (K:=K) rIxL ϖW) (ϖv (kIx (K:=K) rIxT ϖp) (pv 0) (ϖt (by rfl) B.BEGINS) (by intro _ _;rfl)) (ϖv (kIx (K:=K) rIxT ϖp) (pv 4) ϖr (by intro _ _;rfl)) (by intro _ _;rfl)) (ϖt (by rfl) B.WORDS) (by intro _ _;rfl)) rfl)) (ϖj (ϖx (i:=5) sc_words_ahead.nd rfl (Or.inl rfl) (ϖv (kIx (K:=K) rIxL ϖW) (ϖv (kIx (K:=K) rIxT ϖp) (pv 0) (ϖt (by rfl) B.STEPS) (by intro _ _;rfl)) (ϖv (kIx (K:=K) rIxT ϖp) (pv 4) ϖr (by intro _ _;rfl)) (by intro _ _;rfl)))
   (ϖq (ϕy (ϑx hr) (pv 2) (pv 3) (ϖ9 ϖz hr (by decide:1≤1) (by rfl) (ϖa (hs:=ϖJ) (ϑv (ϑx hr) (pv 2) (ϖv (kIx (K:=K) rIxT ϖp) (pv 5) (ϖt (by rfl) B.OUT_OF) (by intro _ _;rfl)) (by intro _ _;rfl)) (ϖa (hs:=ϖJ) (ϖv (kIx (K:=K) rIxT ϖp) (pv 5) (ϖt (by rfl) B.WORDS) (by intro _ _;rfl)) ϖk))) rfl))))))
   (ϖq (ϖP (pv 2))))),?_⟩
 have lT:=ϵu tr ok.r9
 have lk:T.length=kvs.length:=hT.length
 obtain⟨a,zz,xb,xs,xe,rfl,h1,h2,h3,h4,h5,h6,h7⟩:=id hV
 refine fun dw hdw=>?_
 have gw:=ϖi hdw (.dT [])
 have ew0:=ϖd (H:=H) (a:=dw) (o:=.dT [])
 have edw:d≠dw:=ϖw ed hdw
 generalize upd H dw (.dT [])=H1 at gw ew0⊢
 refine⟨_,rfl,d,o,kvs,rfl,gw _ _ ed,?_⟩
 refine ϱb (kvs:=kvs) (fun i σ H'=>Same H H'∧i≤kvs.length∧(∃ x3 x4 x5,σ=[some (.ref a),some (.ref d),some (.ref dw),x3,x4,x5])∧∃kw,H' dw=some (.dT kw)∧Paired (WpV N K H' (100*(i+1))) (T.take i) kw)
  ⟨gw,Nat.zero_le _,⟨_,_,_,rfl⟩,[],ew0,.nil⟩ (fun i σ H' _ z=>z.1 _ _ ed) ?_ ?_
 ·rintro i ky y p b σ H2 hkv ⟨g2,hi,⟨x3,x4,x5,rfl⟩,kw,ew,hw⟩ hp hb
  obtain⟨e,he,hE,t,hy,ht⟩:=ϖX hT hkv
  have hE:ky=keyR N e.1:=hE
  have hy:y=.ref t:=hy
  subst hE hy
  have hil:i < kvs.length:=(List.getElem?_eq_some_iff.mp hkv).1
  have gp:=ϖi hp (.tup [V.ref b,V.ref t])
  have ep:=ϖd (H:=H2) (a:=p) (o:=.tup [V.ref b,V.ref t])
  have g2:=g2.trans gp
  have ew:=gp _ _ ew
  have hb:=gp _ _ hb
  have hw:=ϖg (fun _ _=>WpV.gt (GT.of gp)) hw
  generalize upd H2 p (.tup [V.ref b,V.ref t])=H3 at gp ep g2 ew hb hw⊢
  have ht:=Same.seqT g2 ht
  have t1:=Same.seqT g2 h1
  have hlw:kw.length≤999:=by rw[← hw.length,List.length_take];omega
  have hnk:e.1∉ϖy (T.take i):=fun z=>by
   have nd:=tr.ti.nd
   have e1:ϖy T=ϖy (T.take i)++ϖy (T.drop i):=by unfold ϖy;rw[← List.map_append,List.take_append_drop]
   rw[e1,List.nodup_append] at nd
   have hm:e.1∈ϖy (T.drop i):=by
    unfold ϖy
    refine List.mem_map.mpr ⟨e,?_,rfl⟩
    have:=List.getElem?_drop (xs:=T) (i:=i) (j:=0)
    rw[Nat.add_zero,he] at this
    exact List.mem_of_getElem? this
   exact nd.2.2 _ z _ hm rfl
  have hnv:=ϕr hw hnk
  have fin:∀{G:Hp}{tt:Addr}{wa wb:Str},Same H3 G→SqT K G tt [.str wa,.str wb]→wa.length≤100*(i+1+1)→wb.length≤100*(i+1+1)→Same H (upd G dw (.dT (putK kw (keyR N e.1) (.ref tt))))∧i+1≤kvs.length∧∃kw',upd G dw (.dT (putK kw (keyR N e.1) (.ref tt))) dw=some (.dT kw')∧Paired (WpV N K (upd G dw (.dT (putK kw (keyR N e.1) (.ref tt)))) (100*(i+1+1))) (T.take (i+1)) kw':=fun {G tt wa wb} gG hq l1 l2=>by
   have gt:=ϰc (gG _ _ ew) (fun _ z=>nomatch z) (fun _ _ z=>nomatch z) (.dT (putK kw (keyR N e.1) (.ref tt)))
   refine⟨ϖA (g2.trans gG) hdw,hil,_,ϖd,?_⟩
   generalize upd G dw (.dT (putK kw (keyR N e.1) (.ref tt)))=G' at gt⊢
   rw[ϕ3 _ hnv,ϑZ he]
   exact ϖD (ϖg (fun _ _ h=>(h.gt ((GT.of gG).trans gt)).up (by omega)) hw) (.cons ⟨rfl,tt,wa,wb,rfl,gt.seqT hq,l1,l2⟩ .nil)
  refine⟨p,_,rfl,SqT.of ep,rfl,_,_,rfl,_,_,rfl,rfl,?_⟩
  refine⟨_,rfl,_,_,_,_,rfl,rfl,ht,rfl,rfl,_,rfl,?_⟩
  rcases tr.ti.en i e he with⟨hno,m,hm,_⟩|⟨qq,st,hqq,hs,_,j,e',hj,he',hn,_⟩
  ·rw[hno]
   refine ϲW rfl ?_
   rw[List.getElem?_map] at hm
   obtain⟨dm,hdm,rfl⟩:=Option.map_eq_some_iff.mp hm
   obtain⟨v1,hv1,bb,cc,pp,ww,rfl,q1,q2,q3,q4⟩:=ϖK h5 hdm
   have okm:=ok.b dm (List.mem_of_getElem? hdm)
   refine⟨_,rfl,_,_,_,_,rfl,rfl,t1,rfl,_,rfl,_,_,_,_,rfl,rfl,ht,rfl,_,_,_,_,rfl,rfl,g2.seq h2,ϖM hv1,_,_,_,_,rfl,rfl,Same.seqT g2 q1,rfl,_,rfl,_,rfl,dw,_,rfl,DPut.t (k:=keyR N e.1) ew hb (szl' (by omega)),?_⟩
   obtain⟨f1,f2,f3⟩:=fin (Same.refl _) (Same.seqT g2 q4) (by have:=okm.2.2.1;omega) (by have:=okm.2.2.2;omega)
   exact⟨f1,f2,⟨_,_,_,rfl⟩,f3⟩
  ·rw[hqq]
   refine iteD (fun z=>nomatch z) ?_
   rw[List.getElem?_map] at hs
   obtain⟨ds,hds,rfl⟩:=Option.map_eq_some_iff.mp hs
   obtain⟨v1,hv1,bb,c,pp,sw,ee,rfl,q1,q2,q3,q4,q5⟩:=ϖK h6 hds
   have okd:=ok.s ds (List.mem_of_getElem? hds)
   have hbS:=Same.seqT g2 q1
   have hsw:=Same.seqT g2 q4
   have hroom:=g2 _ _ q2
   have hkey:ds.1∈ϖy (T.take i):=by
    unfold ϖy
    refine List.mem_map.mpr ⟨e',?_,hn⟩
    have:(T.take i)[j]?=some e':=by rw[List.getElem?_take_of_lt hj];exact he'
    exact List.mem_of_getElem? this
   obtain⟨tw,wa,wb,hvw,htw,la,lb⟩:=ϕ6 hw hkey
   refine⟨_,rfl,_,_,_,_,rfl,rfl,t1,rfl,_,rfl,_,_,_,_,rfl,rfl,ht,by rw[hqq];rfl,_,_,_,_,rfl,rfl,g2.seq h3,ϖM hv1,?_⟩
   refine⟨_,rfl,_,rfl,_,_,_,_,rfl,rfl,hbS,rfl,dw,_,rfl,hvw▸DGet.t (k:=keyR N ds.1) ew hroom,_,rfl,_,_,_,_,rfl,rfl,hbS,rfl,tw,sw,wa,wb,ds.2.2.1.1,ds.2.2.1.2,rfl,htw,hsw,by omega,by omega,fun t2 H4 g4 et2=>⟨_,rfl,_,rfl,dw,_,rfl,DPut.t (k:=keyR N e.1) (g4 _ _ ew) (g4 _ _ hb) (szl' (by omega)),?_⟩⟩
   obtain⟨f1,f2,f3⟩:=fin g4 (SqT.of et2) (by rw[ϕN];omega) (by rw[ϕN];omega)
   exact⟨f1,f2,⟨_,_,_,rfl⟩,f3⟩
 rintro σ H2 ⟨g2,_,⟨x3,x4,x5,rfl⟩,kw,ew,hw⟩
 rw[← lk,List.take_length] at hw
 exact⟨_,rfl,q dw H2 g2 ⟨kw,ew,ϖg (fun _ _=>WpV.up (by omega)) hw⟩⟩
theorem sc_words_behind:FnScope ["double","behind","words","pair","trace","step"] ["double","behind"] (ϖm ϖ_):=⟨rfl,rfl,rfl,by decide +kernel,rfl,by decide +kernel,by decide +kernel⟩
theorem ϰa (B:Bi mg) {ϖc ϖu ϖo ϖh ϖe ϖb ϖl ϖf ϖn:Addr} (XB:Xb K mg ϖc ϖu ϖo ϖh ϖe ϖb ϖl ϖf ϖn) (ϖz:Cal P w K mg base "behind_one_another" ["ahead","behind"] 1 (spB1 K)) {f:Addr}{fd:FuncData} (F:Fun K "words_behind" "words_behind" ϖ_ f fd):FnOk P w K mg base CX0 2 f fd ["double","behind"] (spWB K):=by
 refine F.ok sc_words_behind (fun vs H Q E h=>?_) (fun cdv A outer s H vs Q E hr h=>?_)
 ·obtain⟨N,v,g,R,B,S,E,pb,ps,pe,d,T,rfl,_⟩:=h;rfl
 obtain⟨N,v,g,R,Bm,S,Em,pb,ps,pe,d,T,rfl,hV,ok,⟨o,kvs,ed,hT⟩,tr,q⟩:=h
 refine⟨_,(ϖj (ϖx (i:=2) sc_words_behind.nd rfl (Or.inl rfl) ϕE)
   (ϖj (ϑI PassesOwn.never (by rfl) (ϰU (pv 1)) (kPG (K:=K) (fun k=>gTup k 2 _) (ϕW (n:=2) (by rfl) (ϖ3 (ϖF (i:=3) sc_words_behind.nd rfl (Or.inl rfl)) (ϖ3 (ϖF (i:=4) sc_words_behind.nd rfl (Or.inl rfl)) ϕd)))) (ϖq (ϑ3 (ϑp ϰs (ϖv (kIx (K:=K) rIxT ϖp) (pv 4) ϖr (by intro _ _;rfl)) ϑW (ϑH _)) (ϖq (ϕy (ϑx hr) (pv 2) (pv 3) (ϖv (kIx (K:=K) rIxT ϖp) (ϖv (kIx (K:=K) rIxL ϖW) (ϖv (kIx (K:=K) rIxT ϖp) (pv 0) (ϖt (by rfl) B.ENDS) (by intro _ _;rfl)) (ϖv (kIx (K:=K) rIxT ϖp) (pv 4) ϖr (by intro _ _;rfl)) (by intro _ _;rfl)) (ϖt (by rfl) B.WORDS) (by intro _ _;rfl)) rfl)) (ϖj (ϖx (i:=5) sc_words_behind.nd rfl (Or.inl rfl) (ϖv (kIx (K:=K) rIxL ϖW) (ϖv (kIx (K:=K) rIxT ϖp) (pv 0) (ϖt (by rfl) B.STEPS) (by intro _ _;rfl)) (ϖv (kIx (K:=K) rIxT ϖp) (pv 4) ϖr (by intro _ _;rfl)) (by intro _ _;rfl)))
   (ϖq (ϕy (ϑx hr) (pv 2) (pv 3) (ϖ9 ϖz hr (by decide:1≤1) (by rfl) (ϖa (hs:=ϖJ) (ϖv (kIx (K:=K) rIxT ϖp) (pv 5) (ϖt (by rfl) B.WORDS) (by intro _ _;rfl)) (ϖa (hs:=ϖJ) (ϑv (ϑx hr) (pv 2) (ϖv (kIx (K:=K) rIxT ϖp) (pv 5) (ϖt (by rfl) B.INTO) (by intro _ _;rfl)) (by intro _ _;rfl)) ϖk))) rfl))))))
   (ϖq (ϖP (pv 2))))),?_⟩
 have lT:=ϵu tr ok.r9
 have lk:T.length=kvs.length:=hT.length
 obtain⟨a,zz,xb,xs,xe,rfl,h1,h2,h3,h4,h5,h6,h7⟩:=id hV
 refine fun dw hdw=>?_
 have gw:=ϖi hdw (.dT [])
 have ew0:=ϖd (H:=H) (a:=dw) (o:=.dT [])
 have edw:d≠dw:=ϖw ed hdw
 generalize upd H dw (.dT [])=H1 at gw ew0⊢
 refine⟨_,rfl,d,o,kvs,rfl,gw _ _ ed,?_⟩
 refine ϱb (kvs:=kvs) (fun i σ H'=>Same H H'∧i≤kvs.length∧(∃ x3 x4 x5,σ=[some (.ref a),some (.ref d),some (.ref dw),x3,x4,x5])∧∃kw,H' dw=some (.dT kw)∧Paired (WpV N K H' (100*(i+1))) (T.take i) kw)
  ⟨gw,Nat.zero_le _,⟨_,_,_,rfl⟩,[],ew0,.nil⟩ (fun i σ H' _ z=>z.1 _ _ ed) ?_ ?_
 ·rintro i ky y p b σ H2 hkv ⟨g2,hi,⟨x3,x4,x5,rfl⟩,kw,ew,hw⟩ hp hb
  obtain⟨e,he,hE,t,hy,ht⟩:=ϖX hT hkv
  have hE:ky=keyR N e.1:=hE
  have hy:y=.ref t:=hy
  subst hE hy
  have hil:i < kvs.length:=(List.getElem?_eq_some_iff.mp hkv).1
  have gp:=ϖi hp (.tup [V.ref b,V.ref t])
  have ep:=ϖd (H:=H2) (a:=p) (o:=.tup [V.ref b,V.ref t])
  have g2:=g2.trans gp
  have ew:=gp _ _ ew
  have hb:=gp _ _ hb
  have hw:=ϖg (fun _ _=>WpV.gt (GT.of gp)) hw
  generalize upd H2 p (.tup [V.ref b,V.ref t])=H3 at gp ep g2 ew hb hw⊢
  have ht:=Same.seqT g2 ht
  have t1:=Same.seqT g2 h1
  have hlw:kw.length≤999:=by rw[← hw.length,List.length_take];omega
  have hnk:e.1∉ϖy (T.take i):=fun z=>by
   have nd:=tr.ti.nd
   have e1:ϖy T=ϖy (T.take i)++ϖy (T.drop i):=by unfold ϖy;rw[← List.map_append,List.take_append_drop]
   rw[e1,List.nodup_append] at nd
   have hm:e.1∈ϖy (T.drop i):=by
    unfold ϖy
    refine List.mem_map.mpr ⟨e,?_,rfl⟩
    have:=List.getElem?_drop (xs:=T) (i:=i) (j:=0)
    rw[Nat.add_zero,he] at this
    exact List.mem_of_getElem? this
   exact nd.2.2 _ z _ hm rfl
  have hnv:=ϕr hw hnk
  have fin:∀{G:Hp}{tt:Addr}{wa wb:Str},Same H3 G→SqT K G tt [.str wa,.str wb]→wa.length≤100*(i+1+1)→wb.length≤100*(i+1+1)→Same H (upd G dw (.dT (putK kw (keyR N e.1) (.ref tt))))∧i+1≤kvs.length∧∃kw',upd G dw (.dT (putK kw (keyR N e.1) (.ref tt))) dw=some (.dT kw')∧Paired (WpV N K (upd G dw (.dT (putK kw (keyR N e.1) (.ref tt)))) (100*(i+1+1))) (T.take (i+1)) kw':=fun {G tt wa wb} gG hq l1 l2=>by
   have gt:=ϰc (gG _ _ ew) (fun _ z=>nomatch z) (fun _ _ z=>nomatch z) (.dT (putK kw (keyR N e.1) (.ref tt)))
   refine⟨ϖA (g2.trans gG) hdw,hil,_,ϖd,?_⟩
   generalize upd G dw (.dT (putK kw (keyR N e.1) (.ref tt)))=G' at gt⊢
   rw[ϕ3 _ hnv,ϑZ he]
   exact ϖD (ϖg (fun _ _ h=>(h.gt ((GT.of gG).trans gt)).up (by omega)) hw) (.cons ⟨rfl,tt,wa,wb,rfl,gt.seqT hq,l1,l2⟩ .nil)
  refine⟨p,_,rfl,SqT.of ep,rfl,_,_,rfl,_,_,rfl,rfl,?_⟩
  refine⟨_,rfl,_,_,_,_,rfl,rfl,ht,rfl,rfl,_,rfl,?_⟩
  rcases tr.ti.en i e he with⟨hno,m,hm,_⟩|⟨qq,st,hqq,hs,_,j,e',hj,he',hn,_⟩
  ·rw[hno]
   refine ϲW rfl ?_
   rw[List.getElem?_map] at hm
   obtain⟨dm,hdm,rfl⟩:=Option.map_eq_some_iff.mp hm
   obtain⟨v1,hv1,bb,cc,pp,ww,rfl,q1,q2,q3,q4⟩:=ϖK h7 hdm
   have okm:=ok.e dm (List.mem_of_getElem? hdm)
   refine⟨_,rfl,_,_,_,_,rfl,rfl,t1,rfl,_,rfl,_,_,_,_,rfl,rfl,ht,rfl,_,_,_,_,rfl,rfl,g2.seq h4,ϖM hv1,_,_,_,_,rfl,rfl,Same.seqT g2 q1,rfl,_,rfl,_,rfl,dw,_,rfl,DPut.t (k:=keyR N e.1) ew hb (szl' (by omega)),?_⟩
   obtain⟨f1,f2,f3⟩:=fin (Same.refl _) (Same.seqT g2 q4) (by have:=okm.2.2.1;omega) (by have:=okm.2.2.2;omega)
   exact⟨f1,f2,⟨_,_,_,rfl⟩,f3⟩
  ·rw[hqq]
   refine iteD (fun z=>nomatch z) ?_
   rw[List.getElem?_map] at hs
   obtain⟨ds,hds,rfl⟩:=Option.map_eq_some_iff.mp hs
   obtain⟨v1,hv1,bb,c,pp,sw,ee,rfl,q1,q2,q3,q4,q5⟩:=ϖK h6 hds
   have okd:=ok.s ds (List.mem_of_getElem? hds)
   have hbS:=Same.seqT g2 q1
   have hsw:=Same.seqT g2 q4
   have hroom:=g2 _ _ q5
   have hkey:ds.2.2.2∈ϖy (T.take i):=by
    unfold ϖy
    refine List.mem_map.mpr ⟨e',?_,hn⟩
    have:(T.take i)[j]?=some e':=by rw[List.getElem?_take_of_lt hj];exact he'
    exact List.mem_of_getElem? this
   obtain⟨tw,wa,wb,hvw,htw,la,lb⟩:=ϕ6 hw hkey
   refine⟨_,rfl,_,_,_,_,rfl,rfl,t1,rfl,_,rfl,_,_,_,_,rfl,rfl,ht,by rw[hqq];rfl,_,_,_,_,rfl,rfl,g2.seq h3,ϖM hv1,?_⟩
   refine⟨_,rfl,_,_,_,_,rfl,rfl,hbS,rfl,_,rfl,_,rfl,_,_,_,_,rfl,rfl,hbS,rfl,dw,_,rfl,hvw▸DGet.t (k:=keyR N ds.2.2.2) ew hroom,sw,tw,ds.2.2.1.1,ds.2.2.1.2,wa,wb,rfl,hsw,htw,by omega,by omega,fun t2 H4 g4 et2=>⟨_,rfl,_,rfl,dw,_,rfl,DPut.t (k:=keyR N e.1) (g4 _ _ ew) (g4 _ _ hb) (szl' (by omega)),?_⟩⟩
   obtain⟨f1,f2,f3⟩:=fin g4 (SqT.of et2) (by rw[ϕN];omega) (by rw[ϕN];omega)
   exact⟨f1,f2,⟨_,_,_,rfl⟩,f3⟩
 rintro σ H2 ⟨g2,_,⟨x3,x4,x5,rfl⟩,kw,ew,hw⟩
 rw[← lk,List.take_length] at hw
 exact⟨_,rfl,q dw H2 g2 ⟨kw,ew,ϖg (fun _ _=>WpV.up (by omega)) hw⟩⟩
theorem ϰZ:FnScope ["ahead","behind"] ["ahead","behind"] (ϖm ϑB):=⟨rfl,rfl,rfl,by decide +kernel,rfl,by decide +kernel,by decide +kernel⟩
theorem ϰQ (B:Bi mg) {ϖc ϖu ϖo ϖh ϖe ϖb ϖl ϖf ϖn:Addr} (XB:Xb K mg ϖc ϖu ϖo ϖh ϖe ϖb ϖl ϖf ϖn)  {f:Addr}{fd:FuncData} (F:Fun K "are_apart" "are_apart" ϑB f fd):FnOk P w K mg base CX0 1 f fd ["ahead","behind"] (spAp K):=by
 refine F.ok ϰZ (fun vs H Q E h=>?_) (fun cdv A outer s H vs Q E hr h=>?_)
 ·obtain⟨p,q,a,b,c,d,rfl,_⟩:=h;rfl
 obtain⟨p,p2,a,b,c,d,rfl,h1,h2,l1,l2,q⟩:=h
 refine⟨_,(ϖq (ϖP (ϱf op_ne (ϑn ϕk (ϖv (kIx (K:=K) rIxT ϖp) (pv 0) ϖr (by intro _ _;rfl)) (ϖv (kIx (K:=K) rIxT ϖp) (pv 1) ϖr (by intro _ _;rfl))) (ϑn ϕk (ϖv (kIx (K:=K) rIxT ϖp) (pv 0) ϖr (by intro _ _;rfl)) (ϖv (kIx (K:=K) rIxT ϖp) (pv 1) ϖr (by intro _ _;rfl))) (ϑH _)))),?_⟩
 exact⟨_,rfl,_,_,_,_,rfl,rfl,h1,rfl,_,rfl,_,_,_,_,rfl,rfl,h2,rfl,_,_,rfl,rfl,szl (by omega),_,rfl,_,_,_,_,rfl,rfl,h1,rfl,_,rfl,_,_,_,_,rfl,rfl,h2,rfl,_,_,rfl,rfl,szl (by omega),rfl,q _⟩
theorem sc_way_apart_by_begin:FnScope ["double","behind","words","place","begin","pair"] ["double","behind"] (ϖm ϖG):=⟨rfl,rfl,rfl,by decide +kernel,rfl,by decide +kernel,by decide +kernel⟩
theorem ϕj (B:Bi mg) {ϖc ϖu ϖo ϖh ϖe ϖb ϖl ϖf ϖn:Addr} (XB:Xb K mg ϖc ϖu ϖo ϖh ϖe ϖb ϖl ϖf ϖn) (ϑa:Cal P w K mg base "words_behind" ["double","behind"] 2 (spWB K)) (ϖ8:Cal P w K mg base "are_apart" ["ahead","behind"] 1 (spAp K)) (ϑh:Cal P w K mg base "trail_of" ["room","traces","steps","near"] 1 (ϵc K)) {f:Addr}{fd:FuncData} (F:Fun K "way_apart_by_begin" "way_apart_by_begin" ϖG f fd):FnOk P w K mg base CX0 3 f fd ["double","behind"] (ϡe K):=by
 refine F.ok sc_way_apart_by_begin (fun vs H Q E h=>?_) (fun cdv A outer s H vs Q E hr h=>?_)
 ·obtain⟨N,v,g,R,Bm,S,Em,pb,ps,pe,d,T,rfl,_⟩:=h;rfl
 obtain⟨N,v,g,R,Bm,S,Em,pb,ps,pe,d,T,rfl,hV,ok,hT,tr,q⟩:=h
 refine⟨_,(ϖj (ϖx (i:=2) sc_way_apart_by_begin.nd rfl (Or.inl rfl) (ϖ9 ϑa hr (by decide:2≤2) (by rfl) (ϖa (pv 0) (ϖa (pv 1) ϖk))))
   (ϖj (ϑI PassesOwn.never (by rfl) (kPI (K:=K) (fun k=>iEnu k _) (ϰr (by rfl) B.enumerate (ϖa (hs:=ϖJ) (ϖv (kIx (K:=K) rIxT ϖp) (pv 0) (ϖt (by rfl) B.BEGINS) (by intro _ _;rfl)) ϖk))) (kPG (K:=K) (fun k=>gTup k 2 _) (ϕW (n:=2) (by rfl) (ϖ3 (ϖF (i:=3) sc_way_apart_by_begin.nd rfl (Or.inl rfl)) (ϖ3 (ϖF (i:=4) sc_way_apart_by_begin.nd rfl (Or.inl rfl)) ϕd)))) (ϖj (ϖx (i:=5) sc_way_apart_by_begin.nd rfl (Or.inl rfl) (ϖv (kIx (K:=K) rIxT ϖp) (pv 4) ϖr (by intro _ _;rfl)))
   (ϖq (ϑ3 (PW.pt (ϱK (ϰq (ϱO (ϑx hr) (pv 5) (pv 2))) (ϰK (ϰo (ϖ9 ϖ8 hr (by decide:1≤2) (by rfl) (ϖa (hs:=ϖJ) (ϖv (kIx (K:=K) rIxT ϖp) (pv 4) (ϖt (by rfl) B.WORDS) (by intro _ _;rfl)) (ϖa (hs:=ϖJ) (ϑv (ϑx hr) (pv 2) (pv 5) (by intro _ _;rfl)) ϖk))))))) (ϖq (ϖP (ϑb (ϖa (pv 3) (ϖa (hs:=ϑ7) (ϖ9 ϑh hr (by decide:1≤2) (by rfl) (ϖa (pv 5) (ϖa (pv 1) (ϖa (hs:=ϖJ) (ϖv (kIx (K:=K) rIxT ϖp) (pv 0) (ϖt (by rfl) B.STEPS) (by intro _ _;rfl)) (ϖa (ϖt (by rfl) B.INTO) ϖk))))) (ϖa (hs:=ϖJ) (ϖv (kIx (K:=K) rIxT ϖp) (ϑv (ϑx hr) (pv 1) (pv 5) (by intro _ _;rfl)) ϖr (by intro _ _;rfl)) ϖk)))))) ϑc))))
   (ϖq (ϖP ϑW)))),?_⟩
 refine⟨_,rfl,_,rfl,N,v,g,R,Bm,S,Em,pb,ps,pe,d,T,rfl,hV,ok,hT,tr,fun dw H1 g1 hW=>?_⟩
 obtain⟨a,zz,xb,xs,xe,rfl,h1,h2,h3,h4,h5,h6,h7⟩:=id hV
 refine⟨_,rfl,_,_,_,_,rfl,rfl,Same.seqT g1 h1,rfl,pb,rfl,⟨xb,g1.seq h2⟩,?_⟩
 refine ϑ8 (xs:=xb) (fun i σ H'=>Same H1 H'∧i≤xb.length∧∃x3 x4 x5,σ=[some (.ref a),some (.ref d),some (.ref dw),x3,x4,x5]) ⟨Same.refl _,Nat.zero_le _,_,_,_,rfl⟩ (fun i σ H' _ z=>(g1.trans z.1).seq h2) ?_ ?_
 ·rintro i x p0 σ H2 hx ⟨g2,hi,x3,x4,x5,rfl⟩ hp0
  obtain⟨dm,hdm,bb,cc,pp,ww,rfl,q1,q2,q3,q4⟩:=ϖX h5 hx
  have hil:i < xb.length:=(List.getElem?_eq_some_iff.mp hx).1
  have gt0:=ϖi hp0 (.tup [V.int i,V.ref bb])
  have et0:=ϖd (H:=H2) (a:=p0) (o:=.tup [V.int i,V.ref bb])
  have g2:=g2.trans gt0
  generalize upd H2 p0 (.tup [V.int i,V.ref bb])=H3 at gt0 et0 g2⊢
  have g03:=g1.trans g2
  have okm:=ok.b dm (List.mem_of_getElem? hdm)
  refine⟨p0,_,rfl,SqT.of et0,rfl,_,_,rfl,_,_,rfl,rfl,?_⟩
  refine⟨_,rfl,_,_,_,_,rfl,rfl,Same.seqT g03 q1,rfl,?_⟩
  obtain⟨kw,ew,hw⟩:=hW.mono g2
  have hcc:=g03 _ _ q2
  refine⟨_,rfl,_,rfl,dw,_,rfl,DGet.t (k:=keyR N dm.1) ew hcc,_,rfl,?_⟩
  by_cases c:dm.1∈ϖy T
  ·obtain⟨tw,wa,wb,hvw,htw,la,lb⟩:=ϕ6 hw c
   rw[hvw]
   refine iteT ?_
   refine⟨_,rfl,_,_,_,_,rfl,rfl,Same.seqT g03 q1,rfl,_,rfl,_,rfl,dw,_,rfl,hvw▸DGet.t (k:=keyR N dm.1) ew hcc,ww,tw,dm.2.2.1,dm.2.2.2,wa,wb,rfl,Same.seqT g03 q4,htw,by have:=okm.2.2.1;omega,by have:=okm.2.2.2;omega,fun bx=>⟨_,rfl,?_⟩⟩
   refine iteB (fun _=>?_) (fun _=>⟨g2,hil,_,_,_,rfl⟩)
   obtain⟨ti,e,tt,hi2,he1,hg,htt⟩:=ϕt (hT.mono g03) c hcc
   refine⟨_,rfl,_,rfl,_,rfl,_,rfl,_,_,_,_,rfl,rfl,Same.seqT g03 h1,rfl,N,cc,d,ps,3,0,R,T,Em.map mE,S.map sE,dm.1,rfl,.inr rfl,⟨xs,g03.seq h3,ϑq (f:=sE) (fun _ _ h=>(h.gt (GT.of g03) (TS.of g03)).g) h6⟩,hT.mono g03,tr,ok.r9,hcc,c,fun lt H4 qs g4 hlt elt hqs lqs=>?_⟩
   obtain⟨ti,e,tt,hi2,he1,hg,htt⟩:=ϕt ((hT.mono g03).mono g4) c (g4 _ _ hcc)
   refine⟨_,rfl,_,rfl,d,_,rfl,hg,_,_,_,_,rfl,rfl,htt,rfl,(by show 3≤sizeLine;decide),fun t ht=>?_⟩
   have gt:=ϖi ht (.tup [V.int i,V.ref lt,V.int (e.2.1:Int)])
   have hin:=ϵJ tr (ti+1) ti e (by omega) hi2
   rw[List.length_map] at hin
   rw[List.length_map] at hqs
   exact q _ _ ((g03.trans g4).trans gt) (.inr ⟨t,lt,i,e.2.1,qs,rfl,SqT.of ϖd,gt _ _ elt,by rw[h5.length];exact hil,hin,hqs,by omega⟩)
  ·rw[ϕr hw c]
   exact iteF ⟨g2,hil,_,_,_,rfl⟩
 rintro σ H2 ⟨g2,_,x3,x4,x5,rfl⟩
 exact q _ _ (g1.trans g2) (.inl rfl)
theorem ϕw:FnScope ["pair","ahead","double"] ["pair","ahead","double"] (ϖm ϖR):=⟨rfl,rfl,rfl,by decide +kernel,rfl,by decide +kernel,by decide +kernel⟩
theorem ϕq (B:Bi mg) {ϖc ϖu ϖo ϖh ϖe ϖb ϖl ϖf ϖn:Addr} (XB:Xb K mg ϖc ϖu ϖo ϖh ϖe ϖb ϖl ϖf ϖn) (ϑh:Cal P w K mg base "trail_of" ["room","traces","steps","near"] 1 (ϵc K)) {f:Addr}{fd:FuncData} (F:Fun K "trail_from_begin" "trail_from_begin" ϖR f fd):FnOk P w K mg base CX0 2 f fd ["pair","ahead","double"] (ϵ1 K):=by
 refine F.ok ϕw (fun vs H Q E h=>?_) (fun cdv A outer s H vs Q E hr h=>?_)
 ·obtain⟨N,v,g,R,Bm,S,Em,pb,ps,pe,d,T,rb,r,rfl,_⟩:=h;rfl
 obtain⟨N,v,g,R,Bm,S,Em,pb,ps,pe,d,T,rb,r,rfl,hV,ok,hT,tr,hrb,hrT,q⟩:=h
 refine⟨_,(ϖq (ϖP (ϱQ (by rfl) (by rfl) B.list (by rfl) B.reversed (ϖ9 ϑh hr (by decide:1≤1) (by rfl) (ϖa (pv 0) (ϖa (pv 1) (ϖa (hs:=ϖJ) (ϖv (kIx (K:=K) rIxT ϖp) (pv 2) (ϖt (by rfl) B.STEPS) (by intro _ _;rfl)) (ϖa (ϖt (by rfl) B.OUT_OF) ϖk)))))))),?_⟩
 obtain⟨a,zz,xb,xs,xe,rfl,h1,h2,h3,h4,h5,h6,h7⟩:=id hV
 refine⟨_,rfl,_,rfl,_,rfl,_,_,_,_,rfl,rfl,h1,rfl,N,rb,d,ps,0,3,R,T,Bm.map mE,S.map sE,r,rfl,.inl rfl,⟨xs,h3,ϑq (f:=sE) (fun _ _=>DsV.g) h6⟩,hT,tr,ok.r9,hrb,hrT,fun lt H1 qs g1 hlt elt hqs lqs=>?_⟩
 rw[List.length_map] at hqs
 refine⟨lt,_,rfl,elt,fun p hp=>?_⟩
 exact q p _ qs.reverse (g1.trans (ϖi hp _)) (g1.free hp) (by rw[ϖd,List.map_reverse]) (fun x hx=>hqs x (List.mem_reverse.mp hx)) (by rw[List.length_reverse];exact lqs)
theorem sc_way_apart_by_step:FnScope ["double","ahead","behind","first_words","last_words","place","step","start","goal","row"] ["double","ahead","behind"] (ϖm ϖN):=⟨rfl,rfl,rfl,by decide +kernel,rfl,by decide +kernel,by decide +kernel⟩
theorem ϕp (B:Bi mg) {ϖc ϖu ϖo ϖh ϖe ϖb ϖl ϖf ϖn:Addr} (XB:Xb K mg ϖc ϖu ϖo ϖh ϖe ϖb ϖl ϖf ϖn) (ϑg:Cal P w K mg base "words_ahead" ["double","ahead"] 2 (spWA K)) (ϑa:Cal P w K mg base "words_behind" ["double","behind"] 2 (spWB K)) (ϖ8:Cal P w K mg base "are_apart" ["ahead","behind"] 1 (spAp K)) (ϖz:Cal P w K mg base "behind_one_another" ["ahead","behind"] 1 (spB1 K)) (ϖS:Cal P w K mg base "trail_from_begin" ["pair","ahead","double"] 2 (ϵ1 K)) (ϑh:Cal P w K mg base "trail_of" ["room","traces","steps","near"] 1 (ϵc K)) {f:Addr}{fd:FuncData} (F:Fun K "way_apart_by_step" "way_apart_by_step" ϖN f fd):FnOk P w K mg base CX0 3 f fd ["double","ahead","behind"] (ϲQ K):=by
 refine F.ok sc_way_apart_by_step (fun vs H Q E h=>?_) (fun cdv A outer s H vs Q E hr h=>?_)
 ·obtain⟨N,v,g,R,Bm,S,Em,pb,ps,pe,d,T,d2,T2,rfl,_⟩:=h;rfl
 obtain⟨N,v,g,R,Bm,S,Em,pb,ps,pe,d,T,d2,T2,rfl,hV,ok,hT,tr,hT2,tr2,q⟩:=h
 refine⟨_,(ϖj (ϖx (i:=3) sc_way_apart_by_step.nd rfl (Or.inl rfl) (ϖ9 ϑg hr (by decide:2≤2) (by rfl) (ϖa (pv 0) (ϖa (pv 1) ϖk))))
   (ϖj (ϖx (i:=4) sc_way_apart_by_step.nd rfl (Or.inl rfl) (ϖ9 ϑa hr (by decide:2≤2) (by rfl) (ϖa (pv 0) (ϖa (pv 2) ϖk))))
   (ϖj (ϑI PassesOwn.never (by rfl) (kPI (K:=K) (fun k=>iEnu k _) (ϰr (by rfl) B.enumerate (ϖa (hs:=ϖJ) (ϖv (kIx (K:=K) rIxT ϖp) (pv 0) (ϖt (by rfl) B.STEPS) (by intro _ _;rfl)) ϖk))) (kPG (K:=K) (fun k=>gTup k 2 _) (ϕW (n:=2) (by rfl) (ϖ3 (ϖF (i:=5) sc_way_apart_by_step.nd rfl (Or.inl rfl)) (ϖ3 (ϖF (i:=6) sc_way_apart_by_step.nd rfl (Or.inl rfl)) ϕd)))) (ϖj (ϖx (i:=7) sc_way_apart_by_step.nd rfl (Or.inl rfl) (ϖv (kIx (K:=K) rIxT ϖp) (pv 6) (ϖt (by rfl) B.OUT_OF) (by intro _ _;rfl)))
   (ϖj (ϖx (i:=8) sc_way_apart_by_step.nd rfl (Or.inl rfl) (ϖv (kIx (K:=K) rIxT ϖp) (pv 6) (ϖt (by rfl) B.INTO) (by intro _ _;rfl)))
   (ϖq (ϑ3 (PW.pt (ϱK (ϰq (ϱO (ϑx hr) (pv 7) (pv 3))) (ϰK (ϰq (ϱO (ϑx hr) (pv 8) (pv 4)))))) (ϖq (ϑ3 (ϰo (ϖ9 ϖ8 hr (by decide:1≤2) (by rfl) (ϖa (hs:=ϑ7) (ϖ9 ϖz hr (by decide:1≤2) (by rfl) (ϖa (hs:=ϖJ) (ϑv (ϑx hr) (pv 3) (pv 7) (by intro _ _;rfl)) (ϖa (hs:=ϖJ) (ϖv (kIx (K:=K) rIxT ϖp) (pv 6) (ϖt (by rfl) B.WORDS) (by intro _ _;rfl)) ϖk))) (ϖa (hs:=ϖJ) (ϑv (ϑx hr) (pv 4) (pv 8) (by intro _ _;rfl)) ϖk)))) (ϖj (ϖx (i:=9) sc_way_apart_by_step.nd rfl (Or.inl rfl) (ϑn ϱB (ϖ9 ϖS hr (by decide:2≤2) (by rfl) (ϖa (pv 7) (ϖa (pv 1) (ϖa (pv 0) ϖk)))) (ϑz (ϖa (pv 5) ϖk))))
   (ϖq (ϖP (ϑb (ϖa (hs:=ϖJ) (ϖv (kIx (K:=K) rIxT ϖp) (ϑv (ϑx hr) (pv 1) (pv 7) (by intro _ _;rfl)) ϖr (by intro _ _;rfl)) (ϖa (hs:=ϱw) (ϑn ϱB (pv 9) (ϖ9 ϑh hr (by decide:1≤2) (by rfl) (ϖa (pv 8) (ϖa (pv 2) (ϖa (hs:=ϖJ) (ϖv (kIx (K:=K) rIxT ϖp) (pv 0) (ϖt (by rfl) B.STEPS) (by intro _ _;rfl)) (ϖa (ϖt (by rfl) B.INTO) ϖk)))))) (ϖa (hs:=ϖJ) (ϖv (kIx (K:=K) rIxT ϖp) (ϑv (ϑx hr) (pv 2) (pv 8) (by intro _ _;rfl)) ϖr (by intro _ _;rfl)) ϖk))))))) ϑc)) ϑc)))))
   (ϖq (ϖP ϑW))))),?_⟩
 refine⟨_,rfl,_,rfl,N,v,g,R,Bm,S,Em,pb,ps,pe,d,T,rfl,hV,ok,hT,tr,fun dw H1 g1 hW=>?_⟩
 refine⟨_,rfl,_,rfl,N,v,g,R,Bm,S,Em,pb,ps,pe,d2,T2,rfl,hV.mono g1,ok,hT2.mono g1,tr2,fun du H1' g1' hU=>?_⟩
 have hW:=hW.mono g1'
 have g1:=g1.trans g1'
 obtain⟨a,zz,xb,xs,xe,rfl,h1,h2,h3,h4,h5,h6,h7⟩:=id hV
 refine⟨_,rfl,_,_,_,_,rfl,rfl,Same.seqT g1 h1,rfl,ps,rfl,⟨xs,g1.seq h3⟩,?_⟩
 refine ϑ8 (xs:=xs) (fun i σ H'=>Same H1' H'∧i≤xs.length∧∃x5 x6 x7 x8,σ=[some (.ref a),some (.ref d),some (.ref d2),some (.ref dw),some (.ref du),x5,x6,x7,x8,none]) ⟨Same.refl _,Nat.zero_le _,_,_,_,_,rfl⟩ (fun i σ H' _ z=>(g1.trans z.1).seq h3) ?_ ?_
 ·rintro i x p0 σ H2 hx ⟨g2,hi,x5,x6,x7,x8,rfl⟩ hp0
  obtain⟨ds,hds,bb,cc,pp,sw,ee,rfl,q1,q2,q3,q4,q5⟩:=ϖX h6 hx
  have hil:i < xs.length:=(List.getElem?_eq_some_iff.mp hx).1
  have gt0:=ϖi hp0 (.tup [V.int i,V.ref bb])
  have et0:=ϖd (H:=H2) (a:=p0) (o:=.tup [V.int i,V.ref bb])
  have g2:=g2.trans gt0
  generalize upd H2 p0 (.tup [V.int i,V.ref bb])=H3 at gt0 et0 g2⊢
  have g03:=g1.trans g2
  have okd:=ok.s ds (List.mem_of_getElem? hds)
  have t3:=Same.seqT g03 q1
  refine⟨p0,_,rfl,SqT.of et0,rfl,_,_,rfl,_,_,rfl,rfl,?_⟩
  refine⟨_,rfl,_,_,_,_,rfl,rfl,t3,rfl,?_⟩
  refine⟨_,rfl,_,_,_,_,rfl,rfl,t3,rfl,?_⟩
  obtain⟨kw,ew,hw⟩:=hW.mono g2
  obtain⟨ku,eu,hu⟩:=hU.mono g2
  have hcc:=g03 _ _ q2
  have hee:=g03 _ _ q5
  refine⟨_,rfl,_,rfl,dw,_,rfl,DGet.t (k:=keyR N ds.1) ew hcc,_,rfl,?_⟩
  by_cases c:ds.1∈ϖy T
  rotate_left
  ·rw[ϕr hw c]
   exact iteF ⟨g2,hil,_,_,_,_,rfl⟩
  obtain⟨tw,wa,wb,hvw,htw,la,lb⟩:=ϕ6 hw c
  rw[hvw]
  refine iteT ?_
  refine⟨_,rfl,_,rfl,du,_,rfl,DGet.t (k:=keyR N ds.2.2.2) eu hee,_,rfl,?_⟩
  by_cases c2:ds.2.2.2∈ϖy T2
  rotate_left
  ·rw[ϕr hu c2]
   exact iteF ⟨g2,hil,_,_,_,_,rfl⟩
  obtain⟨tu,ua,ub,hvu,htu,la2,lb2⟩:=ϕ6 hu c2
  rw[hvu]
  refine iteT ?_
  refine⟨_,rfl,_,rfl,dw,_,rfl,hvw▸DGet.t (k:=keyR N ds.1) ew hcc,_,rfl,_,_,_,_,rfl,rfl,t3,rfl,tw,sw,wa,wb,ds.2.2.1.1,ds.2.2.1.2,rfl,htw,Same.seqT g03 q4,by have:=okd.2.2.1;omega,by have:=okd.2.2.2.1;omega,fun tj H4 g4 ej=>?_⟩
  refine⟨_,rfl,_,rfl,du,_,rfl,hvu▸DGet.t (k:=keyR N ds.2.2.2) (g4 _ _ eu) (g4 _ _ hee),tj,tu,_,_,ua,ub,rfl,SqT.of ej,Same.seqT g4 htu,by rw[ϕN];have:=okd.2.2.1;omega,by rw[ϕN];have:=okd.2.2.2.1;omega,fun bx=>⟨_,rfl,?_⟩⟩
  have g04:=g03.trans g4
  refine iteB (fun _=>?_) (fun _=>⟨g2.trans g4,hil,_,_,_,_,rfl⟩)
  have hcc:=g4 _ _ hcc
  have hee:=g4 _ _ hee
  refine⟨_,rfl,_,rfl,_,rfl,N,_,g,R,Bm,S,Em,pb,ps,pe,d,T,cc,ds.1,rfl,hV.mono g04,ok,hT.mono g04,tr,hcc,c,fun lt H5 qs g5 hlt elt hqs lqs=>?_⟩
  refine⟨_,rfl,szl (by simp),fun l1 hl1=>?_⟩
  have k1:=ϖi hl1 (.lst [V.int i])
  refine⟨lt,l1,_,_,rfl,rfl,k1 _ _ elt,ϖd,szl (by rw[List.length_map];show qs.length+1≤_;omega),fun l2 hl2=>?_⟩
  have k2:=ϖi hl2 (.lst (qs.map qV++[V.int i]))
  have e2:=ϖd (H:=upd H5 l1 (.lst [V.int i])) (a:=l2) (o:=.lst (qs.map qV++[V.int i]))
  have g05:=((g04.trans g5).trans k1).trans k2
  have g25:=((g5.trans k1).trans k2)
  generalize upd (upd H5 l1 (.lst [V.int i])) l2 (.lst (qs.map qV++[V.int i]))=H6 at e2 g05 g25⊢
  have hcc:=g25 _ _ hcc
  have hee:=g25 _ _ hee
  obtain⟨ti,e,tt,hi2,he1,hg,htt⟩:=ϕt (hT.mono g05) c hcc
  refine⟨_,rfl,_,rfl,d,_,rfl,hg,_,_,_,_,rfl,rfl,htt,rfl,_,rfl,_,rfl,_,rfl,_,rfl,_,_,_,_,rfl,rfl,Same.seqT g05 h1,rfl,N,ee,d2,ps,3,0,R,T2,Em.map mE,S.map sE,ds.2.2.2,rfl,.inr rfl,⟨xs,g05.seq h3,ϑq (f:=sE) (fun _ _ h=>(h.gt (GT.of g05) (TS.of g05)).g) h6⟩,hT2.mono g05,tr2,ok.r9,hee,c2,fun lv H7 ps7 g7 hlv elv hps lps=>?_⟩
  refine⟨l2,lv,_,_,rfl,rfl,g7 _ _ e2,elv,szl (by rw[List.length_append,List.length_map,List.length_map];show qs.length+1+ps7.length≤_;omega),fun l3 hl3=>?_⟩
  have k3:=ϖi hl3 (.lst (qs.map qV++[V.int i]++ps7.map qV))
  have e3:=ϖd (H:=H7) (a:=l3) (o:=.lst (qs.map qV++[V.int i]++ps7.map qV))
  have g08:=(g05.trans g7).trans k3
  have g68:=g7.trans k3
  generalize upd H7 l3 (.lst (qs.map qV++[V.int i]++ps7.map qV))=H8 at e3 g08 g68⊢
  obtain⟨tj2,e',tt2,hi3,he2,hg2,htt2⟩:=ϕt (hT2.mono g08) c2 (g68 _ _ hee)
  refine⟨_,rfl,_,rfl,d2,_,rfl,hg2,_,_,_,_,rfl,rfl,htt2,rfl,(by show 3≤sizeLine;decide),fun t ht=>?_⟩
  have gt:=ϖi ht (.tup [V.int (e.2.1:Int),V.ref l3,V.int (e'.2.1:Int)])
  have hin:=ϵJ tr (ti+1) ti e (by omega) hi2
  have hin2:=ϵJ tr2 (tj2+1) tj2 e' (by omega) hi3
  rw[List.length_map] at hin hin2 hps
  refine q _ _ (g08.trans gt) (.inr ⟨t,l3,e.2.1,e'.2.1,qs++[i]++ps7,rfl,SqT.of ϖd,?_,hin,hin2,fun x hx=>?_,by rw[List.length_append,List.length_append,List.length_singleton];omega⟩)
  ·rw[gt _ _ e3,List.map_append,List.map_append];rfl
  ·rcases List.mem_append.mp hx with hx|hx
   ·rcases List.mem_append.mp hx with hx|hx
    ·exact hqs x hx
    ·rw[List.mem_singleton.mp hx,h6.length];exact hil
   ·exact hps x hx
 rintro σ H2 ⟨g2,_,x5,x6,x7,x8,rfl⟩
 exact q _ _ (g1.trans g2) (.inl rfl)
theorem sc_way_apart_by_end:FnScope ["double","ahead","words","place","end","pair"] ["double","ahead"] (ϖm ϖQ):=⟨rfl,rfl,rfl,by decide +kernel,rfl,by decide +kernel,by decide +kernel⟩
theorem ϕv (B:Bi mg) {ϖc ϖu ϖo ϖh ϖe ϖb ϖl ϖf ϖn:Addr} (XB:Xb K mg ϖc ϖu ϖo ϖh ϖe ϖb ϖl ϖf ϖn) (ϑg:Cal P w K mg base "words_ahead" ["double","ahead"] 2 (spWA K)) (ϖ8:Cal P w K mg base "are_apart" ["ahead","behind"] 1 (spAp K)) (ϖS:Cal P w K mg base "trail_from_begin" ["pair","ahead","double"] 2 (ϵ1 K)) {f:Addr}{fd:FuncData} (F:Fun K "way_apart_by_end" "way_apart_by_end" ϖQ f fd):FnOk P w K mg base CX0 3 f fd ["double","ahead"] (ϲ6 K):=by
 refine F.ok sc_way_apart_by_end (fun vs H Q E h=>?_) (fun cdv A outer s H vs Q E hr h=>?_)
 ·obtain⟨N,v,g,R,Bm,S,Em,pb,ps,pe,d,T,rfl,_⟩:=h;rfl
 obtain⟨N,v,g,R,Bm,S,Em,pb,ps,pe,d,T,rfl,hV,ok,hT,tr,q⟩:=h
 refine⟨_,(ϖj (ϖx (i:=2) sc_way_apart_by_end.nd rfl (Or.inl rfl) (ϖ9 ϑg hr (by decide:2≤2) (by rfl) (ϖa (pv 0) (ϖa (pv 1) ϖk))))
   (ϖj (ϑI PassesOwn.never (by rfl) (kPI (K:=K) (fun k=>iEnu k _) (ϰr (by rfl) B.enumerate (ϖa (hs:=ϖJ) (ϖv (kIx (K:=K) rIxT ϖp) (pv 0) (ϖt (by rfl) B.ENDS) (by intro _ _;rfl)) ϖk))) (kPG (K:=K) (fun k=>gTup k 2 _) (ϕW (n:=2) (by rfl) (ϖ3 (ϖF (i:=3) sc_way_apart_by_end.nd rfl (Or.inl rfl)) (ϖ3 (ϖF (i:=4) sc_way_apart_by_end.nd rfl (Or.inl rfl)) ϕd)))) (ϖj (ϖx (i:=5) sc_way_apart_by_end.nd rfl (Or.inl rfl) (ϖv (kIx (K:=K) rIxT ϖp) (pv 4) ϖr (by intro _ _;rfl)))
   (ϖq (ϑ3 (PW.pt (ϱK (ϰq (ϱO (ϑx hr) (pv 5) (pv 2))) (ϰK (ϰo (ϖ9 ϖ8 hr (by decide:1≤2) (by rfl) (ϖa (hs:=ϖJ) (ϑv (ϑx hr) (pv 2) (pv 5) (by intro _ _;rfl)) (ϖa (hs:=ϖJ) (ϖv (kIx (K:=K) rIxT ϖp) (pv 4) (ϖt (by rfl) B.WORDS) (by intro _ _;rfl)) ϖk))))))) (ϖq (ϖP (ϑb (ϖa (hs:=ϖJ) (ϖv (kIx (K:=K) rIxT ϖp) (ϑv (ϑx hr) (pv 1) (pv 5) (by intro _ _;rfl)) ϖr (by intro _ _;rfl)) (ϖa (hs:=ϑ7) (ϖ9 ϖS hr (by decide:2≤2) (by rfl) (ϖa (pv 5) (ϖa (pv 1) (ϖa (pv 0) ϖk)))) (ϖa (pv 3) ϖk)))))) ϑc))))
   (ϖq (ϖP ϑW)))),?_⟩
 refine⟨_,rfl,_,rfl,N,v,g,R,Bm,S,Em,pb,ps,pe,d,T,rfl,hV,ok,hT,tr,fun dw H1 g1 hW=>?_⟩
 obtain⟨a,zz,xb,xs,xe,rfl,h1,h2,h3,h4,h5,h6,h7⟩:=id hV
 refine⟨_,rfl,_,_,_,_,rfl,rfl,Same.seqT g1 h1,rfl,pe,rfl,⟨xe,g1.seq h4⟩,?_⟩
 refine ϑ8 (xs:=xe) (fun i σ H'=>Same H1 H'∧i≤xe.length∧∃x3 x4 x5,σ=[some (.ref a),some (.ref d),some (.ref dw),x3,x4,x5]) ⟨Same.refl _,Nat.zero_le _,_,_,_,rfl⟩ (fun i σ H' _ z=>(g1.trans z.1).seq h4) ?_ ?_
 ·rintro i x p0 σ H2 hx ⟨g2,hi,x3,x4,x5,rfl⟩ hp0
  obtain⟨dm,hdm,bb,cc,pp,ww,rfl,q1,q2,q3,q4⟩:=ϖX h7 hx
  have hil:i < xe.length:=(List.getElem?_eq_some_iff.mp hx).1
  have gt0:=ϖi hp0 (.tup [V.int i,V.ref bb])
  have et0:=ϖd (H:=H2) (a:=p0) (o:=.tup [V.int i,V.ref bb])
  have g2:=g2.trans gt0
  generalize upd H2 p0 (.tup [V.int i,V.ref bb])=H3 at gt0 et0 g2⊢
  have g03:=g1.trans g2
  have okm:=ok.e dm (List.mem_of_getElem? hdm)
  refine⟨p0,_,rfl,SqT.of et0,rfl,_,_,rfl,_,_,rfl,rfl,?_⟩
  refine⟨_,rfl,_,_,_,_,rfl,rfl,Same.seqT g03 q1,rfl,?_⟩
  obtain⟨kw,ew,hw⟩:=hW.mono g2
  have hcc:=g03 _ _ q2
  refine⟨_,rfl,_,rfl,dw,_,rfl,DGet.t (k:=keyR N dm.1) ew hcc,_,rfl,?_⟩
  by_cases c:dm.1∈ϖy T
  ·obtain⟨tw,wa,wb,hvw,htw,la,lb⟩:=ϕ6 hw c
   rw[hvw]
   refine iteT ?_
   refine⟨_,rfl,_,rfl,dw,_,rfl,hvw▸DGet.t (k:=keyR N dm.1) ew hcc,_,rfl,_,_,_,_,rfl,rfl,Same.seqT g03 q1,rfl,tw,ww,wa,wb,dm.2.2.1,dm.2.2.2,rfl,htw,Same.seqT g03 q4,by have:=okm.2.2.1;omega,by have:=okm.2.2.2;omega,fun bx=>⟨_,rfl,?_⟩⟩
   refine iteB (fun _=>?_) (fun _=>⟨g2,hil,_,_,_,rfl⟩)
   obtain⟨ti,e,tt,hi2,he1,hg,htt⟩:=ϕt (hT.mono g03) c hcc
   refine⟨_,rfl,_,rfl,d,_,rfl,hg,_,_,_,_,rfl,rfl,htt,rfl,_,rfl,_,rfl,_,rfl,N,_,g,R,Bm,S,Em,pb,ps,pe,d,T,cc,dm.1,rfl,hV.mono g03,ok,hT.mono g03,tr,hcc,c,fun lt H4 qs g4 hlt elt hqs lqs=>?_⟩
   refine⟨_,rfl,(by show 3≤sizeLine;decide),fun t ht=>?_⟩
   have gt:=ϖi ht (.tup [V.int (e.2.1:Int),V.ref lt,V.int i])
   have hin:=ϵJ tr (ti+1) ti e (by omega) hi2
   rw[List.length_map] at hin
   exact q _ _ ((g03.trans g4).trans gt) (.inr ⟨t,lt,e.2.1,i,qs,rfl,SqT.of ϖd,gt _ _ elt,hin,by rw[h7.length];exact hil,hqs,by omega⟩)
  ·rw[ϕr hw c]
   exact iteF ⟨g2,hil,_,_,_,rfl⟩
 rintro σ H2 ⟨g2,_,x3,x4,x5,rfl⟩
 exact q _ _ (g1.trans g2) (.inl rfl)
theorem sc_way_apart:FnScope ["double","ahead","behind","way"] ["double"] (ϖm ϑD):=⟨rfl,rfl,rfl,by decide +kernel,rfl,by decide +kernel,by decide +kernel⟩
theorem ϰ9 (B:Bi mg) {ϖc ϖu ϖo ϖh ϖe ϖb ϖl ϖf ϖn:Addr} (XB:Xb K mg ϖc ϖu ϖo ϖh ϖe ϖb ϖl ϖf ϖn) (ϑm:Cal P w K mg base "traces_from_begins" ["scribe"] 3 (ϵw K)) (ϑK:Cal P w K mg base "traces_to_ends" ["scribe"] 3 (ϵB K)) (ϑo:Cal P w K mg base "way_apart_by_begin" ["double","behind"] 3 (ϡe K)) (ϑr:Cal P w K mg base "way_apart_by_step" ["double","ahead","behind"] 3 (ϲQ K)) (ϑy:Cal P w K mg base "way_apart_by_end" ["double","ahead"] 3 (ϲ6 K)) {f:Addr}{fd:FuncData} (F:Fun K "way_apart" "way_apart" ϑD f fd):FnOk P w K mg base CX0 4 f fd ["double"] (spWy K):=by
 refine F.ok sc_way_apart (fun vs H Q E h=>?_) (fun cdv A outer s H vs Q E hr h=>?_)
 ·obtain⟨N,v,g,R,Bm,S,Em,pb,ps,pe,rfl,_⟩:=h;rfl
 obtain⟨N,v,g,R,Bm,S,Em,pb,ps,pe,rfl,hV,ok,q⟩:=h
 refine⟨_,(ϖj (ϖx (i:=1) sc_way_apart.nd rfl (Or.inl rfl) (ϵq (ϖ9 ϑm hr (by decide:3≤3) (by rfl) (ϖa (pv 0) ϖk))))
   (ϖj (ϖx (i:=2) sc_way_apart.nd rfl (Or.inl rfl) (ϵq (ϖ9 ϑK hr (by decide:3≤3) (by rfl) (ϖa (pv 0) ϖk))))
   (ϖj (ϖx (i:=3) sc_way_apart.nd rfl (Or.inl rfl) (ϖ9 ϑo hr (by decide:3≤3) (by rfl) (ϖa (pv 0) (ϖa (pv 2) ϖk))))
   (ϱk (ϑ3 (ϑp ϰs (pv 3) ϑW (ϑH _)) (ϖq (ϖx (i:=3) sc_way_apart.nd rfl (Or.inl rfl) (ϖ9 ϑr hr (by decide:3≤3) (by rfl) (ϖa (pv 0) (ϖa (pv 1) (ϖa (pv 2) ϖk)))))) ϑc)
   (ϱk (ϑ3 (ϑp ϰs (pv 3) ϑW (ϑH _)) (ϖq (ϖx (i:=3) sc_way_apart.nd rfl (Or.inl rfl) (ϖ9 ϑy hr (by decide:3≤3) (by rfl) (ϖa (pv 0) (ϖa (pv 1) ϖk))))) ϑc)
   (ϖq (ϖP (pv 3)))))))),?_⟩
 refine⟨_,rfl,N,v,dbS g R Bm S Em,pb,ps,pe,rfl,hV.g,ok.r,fun d T H1 g1 hd ⟨kvs,ed,hp⟩ tr=>⟨d,kvs,rfl,ed,fun o=>?_⟩⟩
 have tr:TrOk (Bm.map mE) (S.map sE) 0 3 R T:=tr
 have g2:=ϖA (o:=.frz o (.dT kvs)) g1 hd
 have gt:=ϰc ed (fun _ z=>nomatch z) (fun _ _ z=>nomatch z) (.frz o (.dT kvs))
 have hT:TrF N K (upd H1 d (.frz o (.dT kvs))) d T:=⟨o,kvs,ϖd,ϖg (fun _ _=>EnVP.gt gt) hp⟩
 generalize upd H1 d (.frz o (.dT kvs))=H2 at g2 hT⊢
 refine⟨_,rfl,N,v,dbS g R Bm S Em,pb,ps,pe,rfl,(hV.mono g2).g,ok.r,fun d2 T2 H3 g3 hd2 ⟨kvs2,ed2,hp2⟩ tr2=>⟨d2,kvs2,rfl,ed2,fun o2=>?_⟩⟩
 have tr2:TrOk (Em.map mE) (S.map sE) 3 0 R T2:=tr2
 have g4:=ϖA (o:=.frz o2 (.dT kvs2)) g3 hd2
 have gt2:=ϰc ed2 (fun _ z=>nomatch z) (fun _ _ z=>nomatch z) (.frz o2 (.dT kvs2))
 have hT2:TrF N K (upd H3 d2 (.frz o2 (.dT kvs2))) d2 T2:=⟨o2,kvs2,ϖd,ϖg (fun _ _=>EnVP.gt gt2) hp2⟩
 generalize upd H3 d2 (.frz o2 (.dT kvs2))=H4 at g4 hT2⊢
 have hT:=hT.mono g4
 have g04:=g2.trans g4
 refine⟨_,rfl,_,rfl,N,v,g,R,Bm,S,Em,pb,ps,pe,d2,T2,rfl,hV.mono g04,ok,hT2,tr2,fun w H5 g5 hw=>?_⟩
 refine⟨fun σ' H'=>∃w,σ'=[some v,some (.ref d),some (.ref d2),some w]∧Same H4 H'∧WbV K H' Bm.length S.length Em.length w,?_,?_⟩
 ·refine⟨_,rfl,rfl,_,rfl,ϕL (fun _=>?_) (fun _=>⟨w,rfl,g5,hw⟩)⟩
  exact⟨_,rfl,_,rfl,_,rfl,N,v,g,R,Bm,S,Em,pb,ps,pe,d,T,d2,T2,rfl,hV.mono (g04.trans g5),ok,hT.mono g5,tr,hT2.mono g5,tr2,fun w2 H6 g6 hw2=>⟨w2,rfl,g5.trans g6,hw2⟩⟩
 rintro _ H6 ⟨w2,rfl,g6,hw2⟩
 refine⟨fun σ' H'=>∃w,σ'=[some v,some (.ref d),some (.ref d2),some w]∧Same H4 H'∧WbV K H' Bm.length S.length Em.length w,?_,?_⟩
 ·refine⟨_,rfl,rfl,_,rfl,ϕL (fun _=>?_) (fun _=>⟨w2,rfl,g6,hw2⟩)⟩
  exact⟨_,rfl,_,rfl,N,v,g,R,Bm,S,Em,pb,ps,pe,d,T,rfl,hV.mono (g04.trans g6),ok,hT.mono g6,tr,fun w3 H7 g7 hw3=>⟨w3,rfl,g6.trans g7,hw3⟩⟩
 rintro _ H7 ⟨w3,rfl,g7,hw3⟩
 exact⟨_,rfl,q w3 H7 (g04.trans g7) hw3⟩
theorem sc_single_way:FnScope ["double","way","which","row"] ["double","way","which"] (ϖm ϑu):=⟨rfl,rfl,rfl,by decide +kernel,rfl,by decide +kernel,by decide +kernel⟩
theorem ϰB (B:Bi mg) {ϖc ϖu ϖo ϖh ϖe ϖb ϖl ϖf ϖn:Addr} (XB:Xb K mg ϖc ϖu ϖo ϖh ϖe ϖb ϖl ϖf ϖn)  {f:Addr}{fd:FuncData} (F:Fun K "single_way" "single_way" ϑu f fd):FnOk P w K mg base CX0 1 f fd ["double","way","which"] (spSg K):=by
 refine F.ok sc_single_way (fun vs H Q E h=>?_) (fun cdv A outer s H vs Q E hr h=>?_)
 ·obtain⟨N,v,g,Bm,S,Em,pb,ps,pe,w,c,rfl,_⟩:=h;rfl
 obtain⟨N,v,g,Bm,S,Em,pb,ps,pe,w,c,rfl,hc,hV,hw,hW,q⟩:=h
 refine⟨_,(ϖj (ϱT (i:=3) sc_single_way.nd rfl (Or.inl rfl) (by rfl) (by rfl) (ϱD (N':=["place","which","double"]) (js:=[none,some 2,some 0]) rfl (by decide +kernel) rfl (by decide +kernel) rfl rfl) (kPI (K:=K) (fun k=>ϕZ k _) (ϑT (ϖv (kIx (K:=K) rIxT ϖp) (pv 1) ϖr (by intro _ _;rfl)))) (fun _ _ _ _ _=>(ϖF (i:=0) (show List.Nodup (["place","which","double"]:List Str) by decide +kernel) rfl (Or.inl rfl))) (fun _ _ _ _ _=>ϱ1) (fun _ _ _ _ _=>(ϖv (kIx (K:=K) rIxT ϖp) (ϖv (kIx (K:=K) rIxT ϖp) (ϖv (kIx (K:=K) rIxL ϖW) (ϖv (kIx (K:=K) rIxT ϖp) (pv 2) (ϖt (by rfl) B.STEPS) (by intro _ _;rfl)) (pv 0) (by intro _ _;rfl)) (ϖt (by rfl) B.PLACES) (by intro _ _;rfl)) (pv 1) (by intro _ _;rfl))))
   (ϖq (ϖP (ϑb (ϖa (hs:=ϖJ) (ϖv (kIx (K:=K) rIxT ϖp) (ϖv (kIx (K:=K) rIxT ϖp) (ϖv (kIx (K:=K) rIxL ϖW) (ϖv (kIx (K:=K) rIxT ϖp) (pv 0) (ϖt (by rfl) B.BEGINS) (by intro _ _;rfl)) (ϖv (kIx (K:=K) rIxT ϖp) (pv 1) ϖr (by intro _ _;rfl)) (by intro _ _;rfl)) (ϖt (by rfl) B.PLACES) (by intro _ _;rfl)) (pv 2) (by intro _ _;rfl)) (ϖa (pv 3) (ϖa (hs:=ϖJ) (ϖv (kIx (K:=K) rIxT ϖp) (ϖv (kIx (K:=K) rIxT ϖp) (ϖv (kIx (K:=K) rIxL ϖW) (ϖv (kIx (K:=K) rIxT ϖp) (pv 0) (ϖt (by rfl) B.ENDS) (by intro _ _;rfl)) (ϖv (kIx (K:=K) rIxT ϖp) (pv 1) ϖr (by intro _ _;rfl)) (by intro _ _;rfl)) (ϖt (by rfl) B.PLACES) (by intro _ _;rfl)) (pv 2) (by intro _ _;rfl)) ϖk))))))),?_⟩
 rcases hW with rfl|⟨b,l,i,j,qs,rfl,hb,hl,hi,hj,hqs,lqs⟩
 ·exact absurd rfl hw
 obtain⟨a,zz,xb,xs,xe,rfl,h1,h2,h3,h4,h5,h6,h7⟩:=id hV
 refine⟨_,rfl,_,_,_,_,rfl,rfl,hb,rfl,l,rfl,⟨_,SqL.of hl⟩,?_⟩
 refine ϕA (xs:=qs.map qV) (fun n ys τ H'=>H=H'∧(∃ x,τ=[x,some (.int c),some (.ref a)])∧n≤qs.length∧ys.length=n) ⟨rfl,⟨_,rfl⟩,Nat.zero_le _,rfl⟩ (fun n ys τ H' z=>z.1▸SqL.of hl) ?_ ?_
 ·rintro n x ys τ _ hx ⟨rfl,⟨x0,rfl⟩,hn,hyl⟩
  rw[List.getElem?_map] at hx
  obtain⟨o,ho,rfl⟩:=Option.map_eq_some_iff.mp hx
  have hnl:n < qs.length:=(List.getElem?_eq_some_iff.mp ho).1
  have hoS:=hqs o (List.mem_of_getElem? ho)
  obtain⟨v1,hv1,b1,c1,p1,w1,e1,rfl,z1,z2,z3,z4,z5⟩:=ϖK h6 (List.getElem?_eq_getElem hoS)
  obtain⟨m,hm⟩:=at01 hc (S[o].2.1.1:Int) (S[o].2.1.2:Int)
  exact⟨_,rfl,_,_,_,_,rfl,rfl,h1,rfl,_,rfl,_,_,_,_,rfl,rfl,h3,ϖM hv1,_,_,_,_,rfl,rfl,z1,rfl,_,rfl,_,_,_,_,rfl,rfl,z3,hm,szl' (by omega),rfl,⟨_,rfl⟩,hnl,by rw[List.length_append,hyl];rfl⟩
 rintro ys τ _ ⟨rfl,_,_,_⟩ lr hlr
 have gr:=ϖi hlr (.lst ys)
 obtain⟨v1,hv1,b1,c1,p1,w1,rfl,z1,z2,z3,z4⟩:=ϖK h5 (List.getElem?_eq_getElem hi)
 obtain⟨v2,hv2,b2,c2,p2,w2,rfl,y1,y2,y3,y4⟩:=ϖK h7 (List.getElem?_eq_getElem hj)
 obtain⟨m1,hm1⟩:=at01 hc (Bm[i].2.1.1:Int) (Bm[i].2.1.2:Int)
 obtain⟨m2,hm2⟩:=at01 hc (Em[j].2.1.1:Int) (Em[j].2.1.2:Int)
 have t1:=Same.seqT gr h1
 have tb:=Same.seqT gr hb
 refine⟨_,rfl,_,_,_,_,rfl,rfl,t1,rfl,_,rfl,_,_,_,_,rfl,rfl,tb,rfl,_,_,_,_,rfl,rfl,gr.seq h2,ϖM hv1,_,_,_,_,rfl,rfl,Same.seqT gr z1,rfl,_,rfl,_,_,_,_,rfl,rfl,Same.seqT gr z3,hm1,_,rfl,_,rfl,_,_,_,_,rfl,rfl,t1,rfl,_,rfl,_,_,_,_,rfl,rfl,tb,rfl,_,_,_,_,rfl,rfl,gr.seq h4,ϖM hv2,_,_,_,_,rfl,rfl,Same.seqT gr y1,rfl,_,rfl,_,_,_,_,rfl,rfl,Same.seqT gr y3,hm2,(by show 3≤sizeLine;decide),fun t ht=>?_⟩
 exact q t _ (gr.trans (ϖi ht _))
theorem sc_two_ways:FnScope ["scribe","double","way"] ["scribe"] (ϖm ϑQ):=⟨rfl,rfl,rfl,by decide +kernel,rfl,by decide +kernel,by decide +kernel⟩
theorem ϱo (B:Bi mg) {ϖc ϖu ϖo ϖh ϖe ϖb ϖl ϖf ϖn:Addr} (XB:Xb K mg ϖc ϖu ϖo ϖh ϖe ϖb ϖl ϖf ϖn) (ϑs:Cal1 P w K mg base "refuse_many_rooms" ["scribe"] 1 (spMR K ϖb)) (ϑ9:Cal P w K mg base "doubled_of" ["scribe"] 4 (spDb K)) (ϕs:Cal P w K mg base "way_apart" ["double"] 4 (spWy K)) (ϑV:Cal P w K mg base "single_way" ["double","way","which"] 1 (spSg K)) {f:Addr}{fd:FuncData} (F:Fun K "two_ways" "two_ways" ϑQ f fd):FnOk P w K mg base (CX1 P w) 5 f fd ["scribe"] (spTW K ϖb):=by
 refine Fun.ok1 F sc_two_ways (fun vs H Q E h=>?_) (fun cdv A outer s H vs Q E hr h=>?_)
 ·obtain⟨v,s,pb,ps,pe,rfl,_⟩:=h;rfl
 obtain⟨v,s,pb,ps,pe,rfl,hV,ok,sh,lb,ls,le,r0,q,hE⟩:=h
 refine⟨_,(ϖj (ϑ5 (pe_fn1 ϑs hr (by decide:1≤4) (by rfl) ϲZ (ϖa (pv 0) ϖk)))
   (ϖj (ϖx (i:=1) sc_two_ways.nd rfl (Or.inl rfl) (ϖ9 ϑ9 hr (by decide:4≤4) (by rfl) (ϖa (pv 0) ϖk)))
   (ϖj (ϖx (i:=2) sc_two_ways.nd rfl (Or.inl rfl) (ϖ9 ϕs hr (by decide:4≤4) (by rfl) (ϖa (pv 1) ϖk)))
   (ϖj (ϑ3 (ϑp ϰs (pv 2) ϑW (ϑH _)) (ϖq (ϖP ϑW)) ϑc)
   (ϖq (ϖP (ϑb (ϖa (hs:=ϑ7) (ϖ9 ϑV hr (by decide:1≤4) (by rfl) (ϖa (pv 1) (ϖa (pv 2) (ϖa ϖr ϖk)))) (ϖa (hs:=ϑ7) (ϖ9 ϑV hr (by decide:1≤4) (by rfl) (ϖa (pv 1) (ϖa (pv 2) (ϖa ϖr ϖk)))) ϖk))))))))),?_⟩
 refine⟨_,rfl,v,s,pb,ps,pe,rfl,hV,fun h8=>?_,fun h8=>hE h8⟩
 replace q:=q h8
 refine⟨_,rfl,v,s,pb,ps,pe,rfl,hV,ok,sh,lb,ls,le,r0,h8,fun N vd H1 R Bm S Em pb' ps' pe' g1 hD okD=>?_⟩
 refine⟨_,rfl,N,vd,_,R,Bm,S,Em,pb',ps',pe',rfl,hD,okD,fun w H2 g2 hw=>?_⟩
 refine⟨_,rfl,rfl,_,rfl,ϕL (fun _=>q _ _ (g1.trans g2)) (fun c=>?_)⟩
 refine⟨_,rfl,_,rfl,N,vd,_,Bm,S,Em,pb',ps',pe',w,0,rfl,.inl rfl,hD.mono g2,c,hw,fun t1 H3 g3=>?_⟩
 have hw3:WbV K H3 Bm.length S.length Em.length w:=by
  rcases hw with h|⟨b,l,i,j,qs,e,hb,hl,r⟩
  ·exact .inl h
  ·exact .inr ⟨b,l,i,j,qs,e,Same.seqT g3 hb,g3 _ _ hl,r⟩
 refine⟨_,rfl,_,rfl,N,vd,_,Bm,S,Em,pb',ps',pe',w,1,rfl,.inr rfl,hD.mono (g2.trans g3),c,hw3,fun t2 H4 g4=>?_⟩
 refine⟨(by show 2≤sizeLine;decide),fun t ht=>?_⟩
 exact q _ _ ((((g1.trans g2).trans g3).trans g4).trans (ϖi ht _))
theorem ϰi:FnScope ["_law_script","_law_k"] ["_law_script","_law_k"] (ϖm ϑl):=⟨rfl,rfl,rfl,by decide +kernel,rfl,by decide +kernel,by decide +kernel⟩
theorem ϰj (B:Bi mg) {ϖc ϖu ϖo ϖh ϖe ϖb ϖl ϖf ϖn:Addr} (XB:Xb K mg ϖc ϖu ϖo ϖh ϖe ϖb ϖl ϖf ϖn)  {f:Addr}{fd:FuncData} (F:Fun K "_law_cell_at" "_law_cell_at" ϑl f fd):FnOk P w K mg base CX0 1 f fd ["_law_script","_law_k"] (ϱ4 K):=by
 refine F.ok ϰi (fun vs H Q E h=>?_) (fun cdv A outer s H vs Q E hr h=>?_)
 ·obtain⟨a,ns,k,rfl,_⟩:=h;rfl
 obtain⟨a,ns,k,rfl,hS,hk,q⟩:=h
 refine⟨_,(ϖj (ϑ3 (ϑp op_lt (pv 1) (ϖ1 (kLen (K:=K)) (by rfl) B.len ϵb (ϖa (pv 0) ϖk)) (ϑH _)) (ϖq (ϖP (ϖv (kIx (K:=K) rIxL ϖW) (pv 0) (pv 1) (by intro _ _;rfl)))) ϑc)
   (ϖq (ϖP ϖr))),?_⟩
 refine⟨_,rfl,_,rfl,a,_,rfl,.inl hS,_,_,rfl,rfl,_,rfl,?_⟩
 rw[List.length_map]
 refine ϕL (fun c=>?_) (fun c=>?_)
 ·obtain⟨v,h1,h2⟩:=ϲM (xs:=ns) hk c
  refine⟨_,rfl,_,rfl,a,_,_,.int v,rfl,rfl,hS,?_,?_⟩
  ·obtain⟨j,rfl⟩:=Int.eq_ofNat_of_zero_le hk
   exact ϖM (by rw[List.getElem?_map];rw[Int.toNat_natCast] at h2;rw[h2];rfl)
  ·have e:ϰ4 ns k=v:=by unfold ϰ4;rw[if_pos c,h2];rfl
   rw[← e];exact q
 ·have e:ϰ4 ns k=0:=by unfold ϰ4;rw[if_neg c]
  rw[e] at q
  exact q
theorem sc_law_mixed:FnScope ["_law_cell","_law_k","_law_number"] ["_law_cell","_law_k"] (ϖm ϑA):=⟨rfl,rfl,rfl,by decide +kernel,rfl,by decide +kernel,by decide +kernel⟩
theorem ϰW (B:Bi mg) {ϖc ϖu ϖo ϖh ϖe ϖb ϖl ϖf ϖn:Addr} (XB:Xb K mg ϖc ϖu ϖo ϖh ϖe ϖb ϖl ϖf ϖn)  {f:Addr}{fd:FuncData} (F:Fun K "_law_mixed" "_law_mixed" ϑA f fd):FnOk P w K mg base CX0 1 f fd ["_law_cell","_law_k"] (ϱu):=by
 refine F.ok sc_law_mixed (fun vs H Q E h=>?_) (fun cdv A outer s H vs Q E hr h=>?_)
 ·obtain⟨c,k,rfl,_⟩:=h;rfl
 obtain⟨c,k,rfl,q⟩:=h
 refine⟨_,(ϖj (ϖx (i:=2) sc_law_mixed.nd rfl (Or.inl rfl) (ϵj (ϑn ϕa (ϑn ϱE (ϑn ϱE (ϑn ϰ5 (ϑn ϕa (pv 0) ϖr) ϖr) (ϑn ϰ5 (pv 1) ϖr)) ϖr) ϖr)))
   (ϖj (ϖx (i:=2) sc_law_mixed.nd rfl (Or.inl rfl) (ϵj (ϑn ϕa (ϑn ϰ5 (pv 2) (pv 2)) ϖr)))
   (ϖq (ϖP (ϑn ϕa (ϑn ϰ5 (pv 2) (pv 2)) ϖr))))),?_⟩
 refine⟨fun v H'=>H=H'∧ϵ8 0 2147483647 v,⟨_,rfl,_,_,rfl,rfl,pz,_,_,rfl,rfl,.inr ⟨by decide,by decide⟩,_,rfl,_,_,rfl,rfl,.inr ⟨by decide,by decide⟩,_,_,rfl,rfl,_,_,rfl,rfl,_,_,rfl,rfl,pz,rfl,_,rfl,by omega,by omega⟩,?_⟩
 rintro _ _ ⟨rfl,n,rfl,h0,h1⟩
 refine⟨fun v H'=>H=H'∧ϵ8 0 2147483647 v,⟨_,rfl,_,rfl,_,_,rfl,rfl,.inl ⟨by omega,by omega⟩,_,_,rfl,rfl,pz,rfl,_,rfl,by omega,by omega⟩,?_⟩
 rintro _ _ ⟨rfl,m,rfl,h2,h3⟩
 exact⟨_,rfl,_,rfl,_,_,rfl,rfl,.inl ⟨by omega,by omega⟩,_,_,rfl,rfl,pz,q _ (Int.emod_nonneg _ (by decide)) (Int.emod_lt_of_pos _ (by decide))⟩
theorem ϱv:FnScope ["_law_scribe"] ["_law_scribe"] (ϖm ϑR):=⟨rfl,rfl,rfl,by decide +kernel,rfl,by decide +kernel,by decide +kernel⟩
theorem ϱd (B:Bi mg) {ϖc ϖu ϖo ϖh ϖe ϖb ϖl ϖf ϖn:Addr} (XB:Xb K mg ϖc ϖu ϖo ϖh ϖe ϖb ϖl ϖf ϖn)  {f:Addr}{fd:FuncData} (F:Fun K "_law_copy" "_law_copy" ϑR f fd):FnOk P w K mg base CX0 1 f fd ["_law_scribe"] (ϰG K):=by
 refine F.ok ϱv (fun vs H Q E h=>?_) (fun cdv A outer s H vs Q E hr h=>?_)
 ·obtain⟨v,s,pb,ps,pe,rfl,_⟩:=h;rfl
 obtain⟨v,s,pb,ps,pe,rfl,hV,q⟩:=h
 refine⟨_,(ϖq (ϖP (ϑb (ϖa (hs:=ϖJ) (ϖv (kIx (K:=K) rIxT ϖp) (pv 0) ϖr (by intro _ _;rfl)) (ϖa (hs:=ϖJ) (ϖv (kIx (K:=K) rIxT ϖp) (pv 0) ϖr (by intro _ _;rfl)) (ϖa (hs:=ϑ7) (ϕG (ϕS (K:=K) rLo ϕh) (by rfl) B.list ϰJ (ϖa (hs:=ϖJ) (ϖv (kIx (K:=K) rIxT ϖp) (pv 0) ϖr (by intro _ _;rfl)) ϖk)) (ϖa (hs:=ϑ7) (ϕG (ϕS (K:=K) rLo ϕh) (by rfl) B.list ϰJ (ϖa (hs:=ϖJ) (ϖv (kIx (K:=K) rIxT ϖp) (pv 0) ϖr (by intro _ _;rfl)) ϖk)) (ϖa (hs:=ϑ7) (ϕG (ϕS (K:=K) rLo ϕh) (by rfl) B.list ϰJ (ϖa (hs:=ϖJ) (ϖv (kIx (K:=K) rIxT ϖp) (pv 0) ϖr (by intro _ _;rfl)) ϖk)) ϖk)))))))),?_⟩
 obtain⟨a,xb,xs,xe,rfl,h1,h2,h3,h4,h5,h6,h7⟩:=hV
 refine⟨_,rfl,_,_,_,_,rfl,rfl,h1,rfl,_,rfl,_,_,_,_,rfl,rfl,h1,rfl,_,rfl,_,_,_,_,rfl,rfl,h1,rfl,pb,xb,rfl,.inl h2,fun qb hqb=>?_⟩
 have g1:=ϖi hqb (.lst xb)
 refine⟨_,rfl,_,_,_,_,rfl,rfl,Same.seqT g1 h1,rfl,ps,xs,rfl,.inl (g1.seq h3),fun qs hqs=>?_⟩
 have g2:=g1.trans (ϖi hqs (.lst xs))
 refine⟨_,rfl,_,_,_,_,rfl,rfl,Same.seqT g2 h1,rfl,pe,xe,rfl,.inl (g2.seq h4),fun qe hqe=>⟨(by show 5≤sizeLine;decide),fun v hv=>?_⟩⟩
 have g3:=g2.trans (ϖi hqe (.lst xe))
 have gv:=ϖi hv (.tup [V.str s.signs,V.int s.rooms,V.ref qb,V.ref qs,V.ref qe])
 have hqs':H qs=none:=g1.free hqs
 have hqe':upd H qb (.lst xb) qe=none:=(ϖi hqs (.lst xs)).free hqe
 have AP:Apart H qb qs qe:=⟨hqb,hqs',g1.free hqe',ϖw ϖd hqs,ϖw ϖd hqe',ϖw ϖd hqe⟩
 have eb:upd (upd (upd H qb (.lst xb)) qs (.lst xs)) qe (.lst xe) qb=some (.lst xb):=by rw[ϖs AP.be,ϖs AP.bs];exact ϖd
 have es:upd (upd (upd H qb (.lst xb)) qs (.lst xs)) qe (.lst xe) qs=some (.lst xs):=by rw[ϖs AP.se];exact ϖd
 have ee:upd (upd (upd H qb (.lst xb)) qs (.lst xs)) qe (.lst xe) qe=some (.lst xe):=ϖd
 have G:=Same.grow (g3.trans gv)
 exact q _ _ qb qs qe (g3.trans gv) ⟨v,xb,xs,xe,rfl,SqT.of ϖd,gv _ _ eb,gv _ _ es,gv _ _ ee,ϖg (fun _ _=>MkV.mono G) h5,ϖg (fun _ _=>StV.mono G) h6,ϖg (fun _ _=>MkV.mono G) h7⟩ AP
theorem sc_law_alone:FnScope ["_law_error","_law_told"] ["_law_error"] (ϖm ϑC):=⟨rfl,rfl,rfl,by decide +kernel,rfl,by decide +kernel,by decide +kernel⟩
theorem ϰ6 (B:Bi mg) {ϖc ϖu ϖo ϖh ϖe ϖb ϖl ϖf ϖn:Addr} (XB:Xb K mg ϖc ϖu ϖo ϖh ϖe ϖb ϖl ϖf ϖn)  {f:Addr}{fd:FuncData} (F:Fun K "_law_alone" "_law_alone" ϑC f fd):FnOk P w K mg base CX0 1 f fd ["_law_error"] (ϱl K ϖb):=by
 refine F.ok sc_law_alone (fun vs H Q E h=>?_) (fun cdv A outer s H vs Q E hr h=>?_)
 ·obtain⟨x,rfl,_⟩:=h;rfl
 obtain⟨x,rfl,hx,q⟩:=h
 refine⟨_,(ϖj (ϑ3 (PW.pt (pw_or (ϲg (ϰo (ϖ1 (ϕS (K:=K) rIsX ϖU) (by rfl) B.isinstance ϖO (ϖa (pv 0) (ϖa (ϑN (by rfl) XB.nm_ScribeError) ϖk))))) (pw_or1 (ϲg (ϰo (ϖ1 (ϕS (K:=K) rIsX ϖU) (by rfl) B.isinstance ϖO (ϖa (pv 0) (ϖa (pe_ty (by rfl) B.ValueError ϰE) ϖk)))))))) (ϖq (ϖP pe_bl)) ϑc)
   (ϖj (ϖx (i:=1) sc_law_alone.nd rfl (Or.inl rfl) (ϑz (ϖa (hs:=ϑ7) (ϖ1 (ϕS (K:=K) rIsX ϖU) (by rfl) B.isinstance ϖO (ϖa (pv 0) (ϖa (ϑN (by rfl) XB.nm_NoWay) ϖk))) (ϖa (hs:=ϑ7) (ϖ1 (ϕS (K:=K) rIsX ϖU) (by rfl) B.isinstance ϖO (ϖa (pv 0) (ϖa (ϑN (by rfl) XB.nm_NoRoom) ϖk))) (ϖa (hs:=ϑ7) (ϖ1 (ϕS (K:=K) rIsX ϖU) (by rfl) B.isinstance ϖO (ϖa (pv 0) (ϖa (ϑN (by rfl) XB.nm_NotPlain) ϖk))) ϖk)))))
   (ϖj (ϖx (i:=1) sc_law_alone.nd rfl (Or.inl rfl) (ϑn ϱB (pv 1) (ϑz (ϖa (hs:=ϑ7) (ϖ1 (ϕS (K:=K) rIsX ϖU) (by rfl) B.isinstance ϖO (ϖa (pv 0) (ϖa (ϑN (by rfl) XB.nm_OtherSigns) ϖk))) (ϖa (hs:=ϑ7) (ϖ1 (ϕS (K:=K) rIsX ϖU) (by rfl) B.isinstance ϖO (ϖa (pv 0) (ϖa (ϑN (by rfl) XB.nm_TooMany) ϖk))) (ϖa (hs:=ϑ7) (ϖ1 (ϕS (K:=K) rIsX ϖU) (by rfl) B.isinstance ϖO (ϖa (pv 0) (ϖa (ϑN (by rfl) XB.nm_TwoWays) ϖk))) ϖk))))))
   (ϖj (ϖx (i:=1) sc_law_alone.nd rfl (Or.inl rfl) (ϑn ϱB (pv 1) (ϑz (ϖa (hs:=ϑ7) (ϖ1 (ϕS (K:=K) rIsX ϖU) (by rfl) B.isinstance ϖO (ϖa (pv 0) (ϖa (ϑN (by rfl) XB.nm_NeverPlain) ϖk))) (ϖa (hs:=ϑ7) (ϖ1 (ϕS (K:=K) rIsX ϖU) (by rfl) B.isinstance ϖO (ϖa (pv 0) (ϖa (ϑN (by rfl) XB.nm_NoText) ϖk))) ϖk)))))
   (ϖq (ϖP (ϱf op_eq (ϖ1 (kLen (K:=K)) (by rfl) B.len ϵb (ϖa (ϱi rfl (ϱD (N':=["_law_one"]) (js:=[none]) rfl (by decide +kernel) rfl (by decide +kernel) rfl rfl) (kPI (K:=K) (fun k=>ϕZ k _) (ϑT (pv 1))) (fun _ _ _ _ _=>(ϖF (i:=0) (show List.Nodup (["_law_one"]:List Str) by decide +kernel) rfl (Or.inl rfl))) (fun _ _ _ _ _=>(pf_one (ϰo (pv 0)))) (fun _ _ _ _ _=>(pv 0))) ϖk)) ϖr (ϑH _)))))))),?_⟩
 refine⟨_,rfl,x,ϖb,_,_,_,rfl,hx,XB.xc_TooMany,rfl,XB.is_TooMany_ScribeError,_,rfl,iteF ?_⟩
 refine⟨_,rfl,x,ϖb,_,_,_,rfl,hx,XB.xc_TooMany,rfl,XB.iv_TooMany_ValueError,_,rfl,iteF ?_⟩
 refine⟨_,rfl,x,ϖb,_,_,_,rfl,hx,XB.xc_TooMany,rfl,XB.is_TooMany_NoWay,_,rfl,x,ϖb,_,_,_,rfl,hx,XB.xc_TooMany,rfl,XB.is_TooMany_NoRoom,_,rfl,x,ϖb,_,_,_,rfl,hx,XB.xc_TooMany,rfl,XB.is_TooMany_NotPlain,szl (by simp),fun p1 hp1=>?_⟩
 have g1:=ϖi hp1 (.lst [V.bl false,V.bl false,V.bl false])
 have e1:=ϖd (H:=H) (a:=p1) (o:=.lst [V.bl false,V.bl false,V.bl false])
 have hx1:=g1 _ _ hx
 generalize upd H p1 (.lst [V.bl false,V.bl false,V.bl false])=H1 at g1 e1 hx1⊢
 refine⟨_,rfl,_,rfl,x,ϖb,_,_,_,rfl,hx1,XB.xc_TooMany,rfl,XB.is_TooMany_OtherSigns,_,rfl,x,ϖb,_,_,_,rfl,hx1,XB.xc_TooMany,rfl,XB.is_TooMany_TooMany,_,rfl,x,ϖb,_,_,_,rfl,hx1,XB.xc_TooMany,rfl,XB.is_TooMany_TwoWays,szl (by simp),fun p2 hp2=>?_⟩
 have k2:=ϖi hp2 (.lst [V.bl false,V.bl true,V.bl false])
 refine⟨p1,p2,_,_,rfl,rfl,k2 _ _ e1,ϖd,szl (by simp),fun p3 hp3=>?_⟩
 have k3:=ϖi hp3 (.lst ([V.bl false,V.bl false,V.bl false]++[V.bl false,V.bl true,V.bl false]))
 have g3:=(g1.trans k2).trans k3
 have e3:=ϖd (H:=upd H1 p2 (.lst [V.bl false,V.bl true,V.bl false])) (a:=p3) (o:=.lst ([V.bl false,V.bl false,V.bl false]++[V.bl false,V.bl true,V.bl false]))
 have hx3:=g3 _ _ hx
 generalize upd (upd H1 p2 (.lst [V.bl false,V.bl true,V.bl false])) p3 (.lst ([V.bl false,V.bl false,V.bl false]++[V.bl false,V.bl true,V.bl false]))=H3 at g3 e3 hx3⊢
 refine⟨_,rfl,_,rfl,x,ϖb,_,_,_,rfl,hx3,XB.xc_TooMany,rfl,XB.is_TooMany_NeverPlain,_,rfl,x,ϖb,_,_,_,rfl,hx3,XB.xc_TooMany,rfl,XB.is_TooMany_NoText,szl (by simp),fun p4 hp4=>?_⟩
 have k4:=ϖi hp4 (.lst [V.bl false,V.bl false])
 refine⟨p3,p4,_,_,rfl,rfl,k4 _ _ e3,ϖd,szl (by simp),fun p5 hp5=>?_⟩
 have k5:=ϖi hp5 (.lst ([V.bl false,V.bl false,V.bl false]++[V.bl false,V.bl true,V.bl false]++[V.bl false,V.bl false]))
 have g5:=(g3.trans k4).trans k5
 have e5:upd (upd H3 p4 (.lst [V.bl false,V.bl false])) p5 (.lst ([V.bl false,V.bl false,V.bl false]++[V.bl false,V.bl true,V.bl false]++[V.bl false,V.bl false])) p5=some (.lst (bsA.map V.bl)):=ϖd
 generalize upd (upd H3 p4 (.lst [V.bl false,V.bl false])) p5 (.lst ([V.bl false,V.bl false,V.bl false]++[V.bl false,V.bl true,V.bl false]++[V.bl false,V.bl false]))=H5 at g5 e5⊢
 refine⟨_,rfl,p5,rfl,⟨_,SqL.of e5⟩,?_⟩
 refine ϕA (xs:=bsA.map V.bl) (fun i ys τ H'=>H5=H'∧(∃ y,τ=[y])∧i≤8∧ys=((bsA.take i).filter id).map V.bl) ⟨rfl,⟨_,rfl⟩,Nat.zero_le _,rfl⟩ (fun i ys τ H' z=>z.1▸SqL.of e5) ?_ ?_
 ·rintro i y ys τ _ hy ⟨rfl,⟨y0,rfl⟩,hi,rfl⟩
  rw[List.getElem?_map] at hy
  obtain⟨b,hb,rfl⟩:=Option.map_eq_some_iff.mp hy
  have hil:i < 8:=(List.getElem?_eq_some_iff.mp hb).1
  have hyl:(((bsA.take i).filter id).map V.bl).length≤999:=by
   rw[List.length_map]
   have:=List.length_filter_le id (bsA.take i)
   rw[List.length_take] at this
   omega
  refine⟨_,rfl,b,rfl,?_⟩
  cases b with
  |true=>
   refine iteT ⟨_,rfl,szl' (by omega),rfl,⟨_,rfl⟩,hil,?_⟩
   rw[ϑZ hb,List.filter_append,List.map_append];rfl
  |false=>
   refine iteF ⟨rfl,⟨_,rfl⟩,hil,?_⟩
   rw[ϑZ hb,List.filter_append,List.map_append]
   show _=_++[]
   rw[List.append_nil]
 rintro ys τ _ ⟨rfl,_,_,rfl⟩ p6 hp6
 refine⟨p6,_,rfl,.inl (SqL.of ϖd),rfl,?_⟩
 exact q _ (g5.trans (ϖi hp6 _))
theorem sc_law:FnScope ["_law_script","_law_number","_law_rooms","_law_lists","_law_k","_law_cell","_law_room","_law_word","_law_way","_law_told","_law_scribe","_law_handed","_law_error","e"] ["_law_script"] (ϖm ϰF):=⟨rfl,rfl,rfl,by decide +kernel,rfl,by decide +kernel,by decide +kernel⟩
theorem ok_law (B:Bi mg) {ϖc ϖu ϖo ϖh ϖe ϖb ϖl ϖf ϖn:Addr} (XB:Xb K mg ϖc ϖu ϖo ϖh ϖe ϖb ϖl ϖf ϖn) (ϑ4:Cal P w K mg base "_law_mixed" ["_law_cell","_law_k"] 1 (ϱu)) (ϕQ:Cal P w K mg base "_law_copy" ["_law_scribe"] 1 (ϰG K)) (ϑ2:Cal P w K mg base "_law_cell_at" ["_law_script","_law_k"] 1 (ϱ4 K)) (ϕK:Cal1 P w K mg base "two_ways" ["scribe"] 5 (spTW K ϖb)) (ϕu:Cal P w K mg base "_law_alone" ["_law_error"] 1 (ϱl K ϖb)) {f:Addr}{fd:FuncData} (F:Fun K "law" "law" ϰF f fd):FnOk P w K mg base CX0 6 f fd ["_law_script"] (ϵR K):=by
 refine F.ok sc_law (fun vs H Q E h=>?_) (fun cdv A outer s H vs Q E hr h=>?_)
 ·obtain⟨a,ns,rfl,_⟩:=h;rfl
 obtain⟨a,ns,rfl,hS,h63,q⟩:=h
 refine⟨_,(ϖj (ϖx (i:=1) sc_law.nd rfl (Or.inl rfl) (ϖ9 ϑ4 hr (by decide:1≤5) (by rfl) (ϖa (hs:=ϑ7) (ϖ9 ϑ2 hr (by decide:1≤5) (by rfl) (ϖa (pv 0) (ϖa ϖr ϖk))) (ϖa ϖr ϖk))))
   (ϖj (ϖx (i:=2) sc_law.nd rfl (Or.inl rfl) (ϖv (kIx (K:=K) ϲp ϵr) (ϑz (ϖa ϖr (ϖa ϖr (ϖa (hs:=ϱw) (ϑn ϕa (ϑn ϰg (pv 1) ϖr) ϖr) ϖk)))) (ϑn ϕa (pv 1) ϖr) (by intro _ _;rfl)))
   (ϖj (ϖx (i:=3) sc_law.nd rfl (Or.inl rfl) (ϑz (ϖa (hs:=ϱW) (ϑz ϖk) (ϖa (hs:=ϱW) (ϑz ϖk) (ϖa (hs:=ϱW) (ϑz ϖk) ϖk)))))
   (ϖj (ϑI PassesOwn.never (by rfl) (ϱ9 (by rfl) B.range (ϖa ϖr (ϖa (hs:=ϑ7) (ϖ1 (ϵi (by rfl)) (by rfl) B.min bt_min (ϖa ϖr (ϖa (hs:=ϑ7) (ϖ1 (kLen (K:=K)) (by rfl) B.len ϵb (ϖa (pv 0) ϖk)) ϖk))) ϖk))) (ϖF (i:=4) sc_law.nd rfl (Or.inl rfl)) (ϖj (ϖx (i:=5) sc_law.nd rfl (Or.inl rfl) (ϖ9 ϑ4 hr (by decide:1≤5) (by rfl) (ϖa (hs:=ϖJ) (ϖv (kIx (K:=K) rIxL ϖW) (pv 0) (pv 4) (by intro _ _;rfl)) (ϖa (hs:=ϱw) (ϑn ϱE (pv 4) ϖr) ϖk))))
   (ϖj (ϖx (i:=6) sc_law.nd rfl (Or.inl rfl) (ϵj (ϑn ϕa (ϑn ϰg (pv 5) ϖr) (ϖ1 (ϰ_ (by rfl)) (by rfl) B.max ϲa (ϖa (pv 2) (ϖa ϖr ϖk))))))
   (ϖj (ϖx (i:=7) sc_law.nd rfl (Or.inl rfl) (ϵY sl_str ϱL ϲy (ϲJ (ϑn ϕa (ϑn ϰg (pv 5) ϖr) ϖr))))
   (ϖj (ϖx (i:=8) sc_law.nd rfl (Or.inl rfl) (ϖv (kIx (K:=K) ϲp ϵr) (ϑz (ϖa ϖr (ϖa ϖr (ϖa ϖr (ϖa ϖr (ϖa ϖr (ϖa ϖr (ϖa ϖr (ϖa ϖr ϖk))))))))) (ϑn ϕa (pv 5) ϖr) (by intro _ _;rfl)))
   (ϖj (ϖx (i:=9) sc_law.nd rfl (Or.inl rfl) (ϑb (ϖa (pv 6) (ϖa (pv 7) ϖk))))
   (ϱk (ϑ3 (ϑp op_eq (pv 8) ϖr (ϑH _)) (ϖq (ϖx (i:=9) sc_law.nd rfl (Or.inl rfl) (ϑb (ϖa (pv 6) (ϖa (hs:=ϖJ) (ϖv ix_str ϱL (ϑn ϕa (ϑn ϰg (pv 5) ϖr) ϖr) (by intro _ _;rfl)) (ϖa (pv 7) (ϖa (hs:=ϱw) (ϑn ϕa (ϑn ϰg (pv 5) ϖr) (ϖ1 (ϰ_ (by rfl)) (by rfl) B.max ϲa (ϖa (pv 2) (ϖa ϖr ϖk)))) ϖk))))))) ϑc)
   (ϖq (ϑ3 (PW.pt (ϱK (ϑp ϲD (pv 2) ϖr (ϑH _)) (ϰK (ϑp (kOp (K:=K) (rInD · true) (ϵv hr.units)) (pv 9) (ϖv (kIx (K:=K) rIxL ϖW) (pv 3) (pv 8) (by intro _ _;rfl)) rfl)))) (ϖq (ϑ5 (kPE (K:=K) (fun k=>tBM k _ _ _ _) (ϕY PySem.F.plainAttrs_list PySem.F.slot_list_append PySem.F.type_list_append ϑG (ϖv (kIx (K:=K) rIxL ϖW) (pv 3) (pv 8) (by intro _ _;rfl)) (ϖa (pv 9) ϖk))))) ϑc)))))))))
   (ϖj (ϖx (i:=10) sc_law.nd rfl (Or.inl rfl) (ϑb (ϖa ϱL (ϖa (pv 2) (ϖa (hs:=ϖJ) (ϖv (kIx (K:=K) rIxL ϖW) (pv 3) ϖr (by intro _ _;rfl)) (ϖa (hs:=ϖJ) (ϖv (kIx (K:=K) rIxL ϖW) (pv 3) ϖr (by intro _ _;rfl)) (ϖa (hs:=ϖJ) (ϖv (kIx (K:=K) rIxL ϖW) (pv 3) ϖr (by intro _ _;rfl)) ϖk)))))))
   (ϖj (ϖx (i:=11) sc_law.nd rfl (Or.inl rfl) (ϖ9 ϕQ hr (by decide:1≤5) (by rfl) (ϖa (pv 10) ϖk)))
   (ϖj (ϖx (i:=12) sc_law.nd rfl (Or.inl rfl) ϑW)
   (ϖj (ϲn (iz:=12) (ie:=13) rfl ϕK hr (by decide:5≤5) (by rfl) (ϖa (pv 11) ϖk) XB.cl_TooMany (by rfl) rfl rfl rfl sc_law.nd rfl rfl (Or.inl rfl) rfl (by decide))
   (ϖj (ϑ3 (ϑp (kOp (K:=K) rNeD (ϲc hr.units)) (pv 11) (pv 10) (ϑH _)) (ϖq (ϖP pe_bl)) ϑc)
   (ϖj (ϑ3 (ϑp ϲD (pv 2) ϖr (ϑH _)) (ϖq (ϖP (ϖ9 ϕu hr (by decide:1≤5) (by rfl) (ϖa (pv 12) ϖk)))) ϑc)
   (ϖq (ϖP (ϱf ϰs (pv 12) ϑW (ϑH _)))))))))))))),?_⟩
 refine⟨_,rfl,a,ns,0,rfl,hS,by decide,_,_,rfl,fun n0 hn0 hn1=>?_⟩
 refine⟨_,rfl,_,_,rfl,rfl,⟨by decide,by decide⟩,_,_,rfl,rfl,pz,szl (by simp),fun p hp=>⟨_,rfl,_,_,rfl,rfl,pz,p,_,_,rfl,rfl,SqL.of ϖd,by omega,(by show n0 % 3 < 3;omega),ϵ8 0 200,?_,?_⟩⟩
 ·intro v hv
  simp only[List.mem_cons,List.not_mem_nil,or_false] at hv
  rcases hv with rfl|rfl|rfl
  ·exact⟨_,rfl,by decide,by decide⟩
  ·exact⟨_,rfl,by decide,by decide⟩
  ·exact⟨_,rfl,by omega,by omega⟩
 rintro _⟨r,rfl,hr9,hr200⟩
 have g1:=ϖi hp (.lst [V.int 8,V.int 9,V.int (n0 / 3 % 201)])
 generalize upd H p (.lst [V.int 8,V.int 9,V.int (n0 / 3 % 201)])=H1 at g1⊢
 refine⟨szl (by simp),fun pb hpb=>?_⟩
 refine⟨szl (by simp),fun ps hps=>?_⟩
 refine⟨szl (by simp),fun pe hpe=>?_⟩
 refine⟨szl (by simp),fun pl hpl=>?_⟩
 have hps':H1 ps=none:=(ϖi hpb _).free hps
 have hpe':upd H1 pb (.lst []) pe=none:=(ϖi hps _).free hpe
 have hpl':upd (upd H1 pb (.lst [])) ps (.lst []) pl=none:=(ϖi hpe _).free hpl
 have hpl'':upd H1 pb (.lst []) pl=none:=(ϖi hps _).free hpl'
 have AP:Apart H pb ps pe:=⟨g1.free hpb,g1.free hps',g1.free ((ϖi hpb _).free hpe'),ϖw ϖd hps,ϖw ϖd hpe',ϖw ϖd hpe⟩
 have lb:pl≠pb:=(ϖw ϖd hpl'').symm
 have lS:pl≠ps:=(ϖw ϖd hpl').symm
 have le:pl≠pe:=(ϖw ϖd hpl).symm
 have HI0:HI K H pb ps pe false "ba" r 0 (upd (upd (upd (upd H1 pb (.lst [])) ps (.lst [])) pe (.lst [])) pl (.lst [.ref pb,.ref ps,.ref pe])):=
  ⟨[],[],[],[],[],[],(((g1.trans (ϖi hpb _)).trans (ϖi hps _)).trans (ϖi hpe _)).trans (ϖi hpl _),by rw[ϖs lb.symm,ϖs AP.be,ϖs AP.bs];exact ϖd,by rw[ϖs lS.symm,ϖs AP.se];exact ϖd,by rw[ϖs le.symm];exact ϖd,.nil,.nil,.nil,
   ⟨Nat.zero_le _,Nat.zero_le _,Nat.zero_le _,by simp,by simp,by simp,by simp,by simp,by simp,fun _=>Nat.zero_le _,fun _=>by simp,fun _=>by simp⟩⟩
 have el0:=ϖd (H:=upd (upd (upd H1 pb (.lst [])) ps (.lst [])) pe (.lst [])) (a:=pl) (o:=.lst [.ref pb,.ref ps,.ref pe])
 generalize upd (upd (upd (upd H1 pb (.lst [])) ps (.lst [])) pe (.lst [])) pl (.lst [.ref pb,.ref ps,.ref pe])=H3 at HI0 el0⊢
 have hS3:SqL K H3 a (ns.map V.int):=by obtain⟨_,_,_,_,_,_,z,_⟩:=HI0;exact z.seq hS
 refine⟨_,rfl,a,_,rfl,.inl hS3,_,_,rfl,_,_,rfl,⟨by decide,by decide,?_,?_⟩,?_⟩
 ·rw[List.length_map]
  show -(2 ^ 62:Int)≤if (ns.length:Int) < 20 then (ns.length:Int) else 20
  split<;>omega
 ·rw[List.length_map]
  show(if (ns.length:Int) < 20 then (ns.length:Int) else 20) < 2 ^ 62
  split<;>omega
 rw[List.length_map]
 have hturns:((if (ns.length:Int) < 20 then (ns.length:Int) else 20)-1).toNat≤20∧((if (ns.length:Int) < 20 then (ns.length:Int) else 20)-1).toNat≤ns.length-1:=by split<;>omega
 have hmx:0 < (if (1:Int) > r then 1 else r)∧(0 < r→(if (1:Int) > r then 1 else r)=r):=by split<;>omega
 refine ϵo (fun i σ H'=>HI K H pb ps pe false "ba" r i H'∧H' pl=some (.lst [.ref pb,.ref ps,.ref pe])∧∃x4 x5 x6 x7 x8 x9,σ=[some (.ref a),some (.int n0),some (.int r),some (.ref pl),x4,x5,x6,x7,x8,x9,none,none,none,none]) ⟨HI0,el0,_,_,_,_,_,_,rfl⟩ ?_ ?_
 ·rintro i σ H4 hi ⟨hI,el,x4,x5,x6,x7,x8,x9,rfl⟩
  have hi62:i < 20:=Nat.lt_of_lt_of_le hi hturns.1
  have hin:1+i < ns.length:=by have:=Nat.lt_of_lt_of_le hi hturns.2;omega
  have hS4:SqL K H4 a (ns.map V.int):=by obtain⟨_,_,_,_,_,_,z,_⟩:=hI;exact z.seq hS
  have hat0:atI (ns.map V.int) (1+(i:Int))=some (.int ns[1+i]):=ϖM (j:=1+i) (by rw[List.getElem?_map,List.getElem?_eq_getElem hin];rfl)
  refine⟨_,rfl,_,rfl,a,_,_,_,rfl,rfl,hS4,hat0,_,rfl,_,_,rfl,rfl,_,_,rfl,fun c c0 c1=>?_⟩
  refine⟨fun v H'=>H4=H'∧∃n:Int,v=.int n∧0≤n∧(0 < r→n < r),⟨_,rfl,_,_,rfl,rfl,⟨by decide,by decide⟩,_,rfl,_,_,rfl,_,_,rfl,rfl,hmx.1,rfl,_,rfl,Int.emod_nonneg _ (by omega),(fun h=>by have:=Int.emod_lt_of_pos (c / 8) hmx.1;rw[hmx.2 h] at this⊢;exact this)⟩,?_⟩
  rintro _ _ ⟨rfl,ro,rfl,ro0,ro1⟩
  refine⟨_,rfl,_,_,rfl,rfl,⟨by decide,by decide⟩,_,_,rfl,rfl,pz,_,rfl,_,rfl,szl (by rw[ϵA];decide),?_⟩
  have hwd0:=wd_ab (c / 4000 % 3)
  generalize Txt.slice "ab" none (some (c / 4000 % 3))=wd at hwd0⊢
  refine⟨szl (by simp),fun p2 hp2=>⟨_,rfl,_,_,rfl,rfl,pz,p2,_,_,rfl,rfl,SqL.of ϖd,by omega,(by show c % 8 < 8;omega),ϵ8 0 2,?_,?_⟩⟩
  ·intro v hv
   simp only[List.mem_cons,List.not_mem_nil,or_false] at hv
   rcases hv with rfl|rfl|rfl|rfl|rfl|rfl|rfl|rfl<;>exact⟨_,rfl,by decide,by decide⟩
  rintro _⟨way,rfl,hw0,hw2⟩
  have gp:=ϖi hp2 (.lst [V.int 0,V.int 1,V.int 1,V.int 1,V.int 2,V.int 2,V.int 1,V.int 0])
  have hI:=hI.mono gp (Nat.le_refl _)
  have el:=gp _ _ el
  generalize upd H4 p2 (.lst [V.int 0,V.int 1,V.int 1,V.int 1,V.int 2,V.int 2,V.int 1,V.int 0])=H5 at hI el⊢
  refine⟨_,rfl,_,rfl,(by show 2≤sizeLine;decide),fun t ht=>?_⟩
  have gt:=ϖi ht (.tup [V.int ro,V.str wd])
  have et:=ϖd (H:=H5) (a:=t) (o:=.tup [V.int ro,V.str wd])
  have hI:=hI.mono gt (Nat.le_refl _)
  have el:=gt _ _ el
  dsimp only at ht⊢
  generalize upd H5 t (.tup [V.int ro,V.str wd])=H7 at hI el et⊢
  refine⟨fun σ' H'=>∃t',σ'=[some (.ref a),some (.int n0),some (.int r),some (.ref pl),some (.int (1+(i:Int))),some (.int c),some (.int ro),some (.str wd),some (.int way),some (.ref t'),none,none,none,none]∧HI K H pb ps pe false "ba" r i H'∧H' pl=some (.lst [.ref pb,.ref ps,.ref pe]) ∧
    ((¬ way=1∧∃wd,Wd wd∧SqT K H' t' [.int ro,.str wd])∨(way=1∧∃sg wd to,sg∈cl ("ba":Str)∧Wd wd∧0≤to∧(0 < r→to < r)∧SqT K H' t' [.int ro,.str ⟨#[sg]⟩,.str wd,.int to])),?_,?_⟩
  ·refine⟨_,rfl,rfl,_,rfl,ϕL (fun cc=>?_) (fun cc=>⟨t,rfl,hI,el,.inl ⟨fun z=>cc (by rw[z]),wd,hwd0,SqT.of et⟩⟩)⟩
   have cc:way=1:=by injection cc
   obtain⟨sg,hc,hm⟩:=at_mem (xs:=cl ("ab":Str)) (i:=c / 16000 % 2) (Int.emod_nonneg _ (by decide)) (by rw[ϑY,ϵA];exact Int.emod_lt_of_pos _ (by decide))
   have to0:0≤c / 32000 % (if (1:Int) > r then 1 else r):=Int.emod_nonneg _ (by omega)
   have to1:0 < r→c / 32000 % (if (1:Int) > r then 1 else r) < r:=fun h=>by have:=Int.emod_lt_of_pos (c / 32000) hmx.1;rw[hmx.2 h] at this⊢;exact this
   refine⟨_,rfl,_,rfl,_,_,rfl,rfl,⟨by decide,by decide⟩,_,_,rfl,rfl,pz,_,_,sg,rfl,rfl,szl (by rw[ϵA];decide),hc,_,rfl,_,rfl,_,_,rfl,rfl,⟨by decide,by decide⟩,_,rfl,_,_,rfl,_,_,rfl,rfl,hmx.1,(by show 4≤sizeLine;decide),fun t2 ht2=>?_⟩
   have gt2:=ϖi ht2 (.tup [V.int ro,V.str ⟨#[sg]⟩,V.str wd,V.int (c / 32000 % (if (1:Int) > r then 1 else r))])
   exact⟨t2,rfl,hI.mono gt2 (Nat.le_refl _),gt2 _ _ el,.inr ⟨cc,sg,wd,_,ab_ba _ hm,hwd0,to0,to1,SqT.of ϖd⟩⟩
  rintro _ H8 ⟨t',rfl,hI,el,hcase⟩
  obtain⟨B,S,E',xb,xs,xe,i1,i2,i3,i4,i5,i6,i7,i8⟩:=hI
  have stay:HI K H pb ps pe false "ba" r (i+1) H8:=HI.mono ⟨B,S,E',xb,xs,xe,i1,i2,i3,i4,i5,i6,i7,i8⟩ (Same.refl _) (Nat.le_succ _)
  have hw:way=0∨way=1∨way=2:=by omega
  rcases hw with rfl|rfl|rfl
  ·obtain⟨_,wd,hwd,hT⟩:¬ (0:Int)=1∧∃wd,Wd wd∧SqT K H8 t' [.int ro,.str wd]:=by
    rcases hcase with z|z
    ·exact z
    ·exact absurd z.1 (by decide)
   have hat:atI [V.ref pb,V.ref ps,V.ref pe] 0=some (.ref pb):=rfl
   refine⟨_,rfl,_,_,rfl,rfl,_,rfl,ϕL (fun hr0=>⟨_,rfl,_,rfl,_,rfl,_,_,_,_,rfl,rfl,SqL.of el,hat,dMk (ro,wd),pb,xb,B.map dMk,MkV.rep ⟨t',rfl,hT⟩,rfl,SqL.of i2,ϱA (m:=(ro,wd)) i5,Nat.le_trans (ϑS dMk 1 ϕ2 B) (by decide),_,rfl,iteB (fun z=>?_) (fun _=>⟨stay,el,_,_,_,_,_,_,rfl⟩)⟩) (fun _=>⟨stay,el,_,_,_,_,_,_,rfl⟩)⟩
   have z':(!((B.map dMk).any fun e=>eqD e (dMk (ro,wd))))=true:=z
   rw[ϰH dMk ϵk] at z'
   have hlx:xb.length < sizeLine:=by have:=i5.length;have:B.length≤i:=i8.lb;exact szl' (by omega)
   refine⟨_,rfl,_,rfl,_,_,_,_,rfl,rfl,SqL.of el,hat,.inl ⟨rfl,_,SqL.of i2⟩,_,rfl,pb,xb,.ref t',rfl,rfl,i2,hlx,?_,(ϖs lb).trans el,_,_,_,_,_,_,rfl⟩
   exact HI.addBegin AP i1 i2 i3 i4 i5 i6 i7 (i8.begin ro0 (ro1 hr0) hwd (by simpa using z') (fun h=>nomatch h)) ⟨t',rfl,hT⟩
  ·obtain⟨_,sg,wd,to,hsg,hwd,to0,to1,hT⟩:(1:Int)=1∧∃sg wd to,sg∈cl ("ba":Str)∧Wd wd∧0≤to∧(0 < r→to < r)∧SqT K H8 t' [.int ro,.str ⟨#[sg]⟩,.str wd,.int to]:=by
    rcases hcase with z|z
    ·exact absurd rfl z.1
    ·exact z
   have hat:atI [V.ref pb,V.ref ps,V.ref pe] 1=some (.ref ps):=rfl
   refine⟨_,rfl,_,_,rfl,rfl,_,rfl,ϕL (fun hr0=>⟨_,rfl,_,rfl,_,rfl,_,_,_,_,rfl,rfl,SqL.of el,hat,dSt (ro,⟨#[sg]⟩,wd,to),ps,xs,S.map dSt,StV.rep ⟨t',rfl,hT⟩,rfl,SqL.of i3,ϲz i6,Nat.le_trans (ϑS dSt 1 ϱG S) (by decide),_,rfl,iteB (fun z=>?_) (fun _=>⟨stay,el,_,_,_,_,_,_,rfl⟩)⟩) (fun _=>⟨stay,el,_,_,_,_,_,_,rfl⟩)⟩
   have z':(!((S.map dSt).any fun e=>eqD e (dSt (ro,⟨#[sg]⟩,wd,to))))=true:=z
   rw[ϰH dSt ϲm] at z'
   have hlx:xs.length < sizeLine:=by have:=i6.length;have:S.length≤i:=i8.ls;exact szl' (by omega)
   refine⟨_,rfl,_,rfl,_,_,_,_,rfl,rfl,SqL.of el,hat,.inl ⟨rfl,_,SqL.of i3⟩,_,rfl,ps,xs,.ref t',rfl,rfl,i3,hlx,?_,(ϖs lS).trans el,_,_,_,_,_,_,rfl⟩
   exact HI.addStep AP i1 i2 i3 i4 i5 i6 i7 (i8.step ro0 (ro1 hr0) ⟨sg,hsg,rfl⟩ hwd to0 (to1 hr0) (by simpa using z') (fun h=>nomatch h)) ⟨t',rfl,hT⟩
  ·obtain⟨_,wd,hwd,hT⟩:¬ (2:Int)=1∧∃wd,Wd wd∧SqT K H8 t' [.int ro,.str wd]:=by
    rcases hcase with z|z
    ·exact z
    ·exact absurd z.1 (by decide)
   have hat:atI [V.ref pb,V.ref ps,V.ref pe] 2=some (.ref pe):=rfl
   refine⟨_,rfl,_,_,rfl,rfl,_,rfl,ϕL (fun hr0=>⟨_,rfl,_,rfl,_,rfl,_,_,_,_,rfl,rfl,SqL.of el,hat,dMk (ro,wd),pe,xe,E'.map dMk,MkV.rep ⟨t',rfl,hT⟩,rfl,SqL.of i4,ϱA (m:=(ro,wd)) i7,Nat.le_trans (ϑS dMk 1 ϕ2 E') (by decide),_,rfl,iteB (fun z=>?_) (fun _=>⟨stay,el,_,_,_,_,_,_,rfl⟩)⟩) (fun _=>⟨stay,el,_,_,_,_,_,_,rfl⟩)⟩
   have z':(!((E'.map dMk).any fun e=>eqD e (dMk (ro,wd))))=true:=z
   rw[ϰH dMk ϵk] at z'
   have hlx:xe.length < sizeLine:=by have:=i7.length;have:E'.length≤i:=i8.le;exact szl' (by omega)
   refine⟨_,rfl,_,rfl,_,_,_,_,rfl,rfl,SqL.of el,hat,.inl ⟨rfl,_,SqL.of i4⟩,_,rfl,pe,xe,.ref t',rfl,rfl,i4,hlx,?_,(ϖs le).trans el,_,_,_,_,_,_,rfl⟩
   exact HI.addEnd AP i1 i2 i3 i4 i5 i6 i7 (i8.end_ ro0 (ro1 hr0) hwd (by simpa using z') (fun h=>nomatch h)) ⟨t',rfl,hT⟩
 rintro σ H4 ⟨hI,el,x4,x5,x6,x7,x8,x9,rfl⟩
 have hI:HI K H pb ps pe false "ba" r 20 H4:=hI.mono (Same.refl _) hturns.1
 obtain⟨Bq,S,E',xb,xs,xe,i1,i2,i3,i4,i5,i6,i7,i8⟩:=hI
 refine⟨_,rfl,_,rfl,_,_,_,_,rfl,rfl,SqL.of el,rfl,_,rfl,_,_,_,_,rfl,rfl,SqL.of el,rfl,_,rfl,_,_,_,_,rfl,rfl,SqL.of el,rfl,(by show 5≤sizeLine;decide),fun v hv=>?_⟩
 have gv:=ϖi hv (.tup [V.str "ba",V.int r,V.ref pb,V.ref ps,V.ref pe])
 obtain⟨s,es⟩:∃s:Scr,s=⟨"ba",r,Bq,S,E'⟩:=⟨_,rfl⟩
 have hsr:s.rooms=r:=by rw[es]
 rw[← es] at i8
 have okR:=okS_R i8 (by omega)
 have sh:=ϵx i8
 have hVs:ScV K (upd H4 v (.tup [V.str "ba",V.int r,V.ref pb,V.ref ps,V.ref pe])) s (.ref v) pb ps pe:=by
  rw[es]
  exact⟨v,xb,xs,xe,rfl,SqT.of ϖd,SqL.of (gv _ _ i2),SqL.of (gv _ _ i3),SqL.of (gv _ _ i4),ϖg (fun _ _=>MkV.mono (Same.grow gv)) i5,ϖg (fun _ _=>StV.mono (Same.grow gv)) i6,ϖg (fun _ _=>MkV.mono (Same.grow gv)) i7⟩
 dsimp only at hv⊢
 generalize upd H4 v (.tup [V.str "ba",V.int r,V.ref pb,V.ref ps,V.ref pe])=H5 at hVs⊢
 have a1:=i8.lb
 have a2:=i8.ls
 have a3:=i8.le
 clear es i1 i2 i3 i4 i5 i6 i7 i8 el
 refine⟨_,rfl,.ref v,s,pb,ps,pe,rfl,hVs,fun v2 H6 pb2 ps2 pe2 g6 hN2 _=>?_⟩
 have hVh:=hN2.v
 have hVs:=hVs.mono g6
 have d1:deep (dScr s)≤60:=Nat.le_trans (ϵK _) (by decide)
 refine⟨_,rfl,v2,s,pb2,ps2,pe2,rfl,hVh,okR,sh,a1,a2,a3,by omega,fun h8 w H7 g7=>?_,fun h8=>⟨ϖb,rfl,XB.sub_TooMany_TooMany,fun xc hxc=>?_⟩⟩
 ·refine⟨_,rfl,_,rfl,dScr s,dScr s,(hVh.mono g7).rep,(hVs.mono g7).rep,d1,_,rfl,?_⟩
  rw[ϕz]
  refine iteF ?_
  refine⟨_,rfl,_,_,rfl,rfl,_,rfl,ϕL (fun c=>absurd c (by omega)) (fun _=>?_)⟩
  exact⟨_,rfl,rfl,q _⟩
 ·have gx:=ϖi hxc (Exc xc ϖb)
  have ex:=ϖd (H:=H6) (a:=xc) (o:=Exc xc ϖb)
  generalize upd H6 xc (Exc xc ϖb)=H7 at gx ex⊢
  refine⟨_,rfl,_,rfl,dScr s,dScr s,(hVh.mono gx).rep,(hVs.mono gx).rep,d1,_,rfl,?_⟩
  rw[ϕz]
  refine iteF ?_
  refine⟨_,rfl,_,_,rfl,rfl,_,rfl,ϕL (fun _=>?_) (fun c=>absurd (by omega) c)⟩
  exact⟨_,rfl,xc,rfl,ex,fun H8 g8=>q _⟩
end
theorem ϕ0 {α:Type}:∀{us:List α} (_:us.length=1),∃u0,us=[u0]
 |[u0],_=>⟨u0,rfl⟩
theorem ϰD {α:Type}:∀{us:List α} (_:us.length=2),∃u0 u1,us=[u0,u1]
 |[u0,u1],_=>⟨u0,u1,rfl⟩
theorem ϲ5 {α:Type}:∀{us:List α} (_:us.length=3),∃u0 u1 u2,us=[u0,u1,u2]
 |[u0,u1,u2],_=>⟨u0,u1,u2,rfl⟩
theorem len_4 {α:Type}:∀{us:List α} (_:us.length=4),∃u0 u1 u2 u3,us=[u0,u1,u2,u3]
 |[u0,u1,u2,u3],_=>⟨u0,u1,u2,u3,rfl⟩
theorem all_mk {l:PySem.W.OpenLaw}{w:World}{K:Frag}{h:Heap}{mg:Str→Option Value}{fa f0 f1 f2 f3 f4 f5 f6 f7 f8 f9 f10 f11 f12 f13 f14 f15 f16 f17 f18 f19 f20 f21 f22 f23 f24 f25 f26 ϖc ϖu ϖo ϖh ϖe ϖb ϖl ϖf ϖn:Addr} (X:K.In h) (G:h.Ns mainGlobals mg) (hfa:mg "law"=some (.ref fa))
  {od0 an0 od1 an1 od2 an2 od3 an3 od4 an4 od5 an5 od6 an6 od7 an7 od8 an8 od9 an9 od10 an10 od11 an11 od12 an12 od13 an13 od14 an14 od15 an15 od16 an16 od17 an17 od18 an18 od19 an19 od20 an20 od21 an21 od22 an22 od23 an23 od24 an24 od25 an25 od26 an26:Option Addr}{sl0 sl1 sl2 sl3 sl4 sl5 sl6 sl7 sl8 sl9 sl10 sl11 sl12 sl13 sl14 sl15 sl16 sl17 sl18 sl19 sl20 sl21 sl22 sl23 sl24 sl25 sl26:Array (Option Value)}{oc0 kV0 dc0 pm0 cd0 ct0 oc1 kV1 dc1 pm1 cd1 ct1 oc2 kV2 dc2 pm2 cd2 ct2 oc3 kV3 dc3 pm3 cd3 ct3 oc4 kV4 dc4 pm4 cd4 ct4 oc5 kV5 dc5 pm5 cd5 ct5 oc6 kV6 dc6 pm6 cd6 ct6 oc7 kV7 dc7 pm7 cd7 ct7 oc8 kV8 dc8 pm8 cd8 ct8 oc9 kV9 dc9 pm9 cd9 ct9 oc10 kV10 dc10 pm10 cd10 ct10 oc11 kV11 dc11 pm11 cd11 ct11 oc12 kV12 dc12 pm12 cd12 ct12 oc13 kV13 dc13 pm13 cd13 ct13 oc14 kV14 dc14 pm14 cd14 ct14 oc15 kV15 dc15 pm15 cd15 ct15 oc16 kV16 dc16 pm16 cd16 ct16 oc17 kV17 dc17 pm17 cd17 ct17 oc18 kV18 dc18 pm18 cd18 ct18 oc19 kV19 dc19 pm19 cd19 ct19 oc20 kV20 dc20 pm20 cd20 ct20 oc21 kV21 dc21 pm21 cd21 ct21 oc22 kV22 dc22 pm22 cd22 ct22 oc23 kV23 dc23 pm23 cd23 ct23 oc24 kV24 dc24 pm24 cd24 ct24 oc25 kV25 dc25 pm25 cd25 ct25 oc26 kV26 dc26 pm26 cd26 ct26:Value}
  (a0:nsIn K mainGlobals "places_at"=some (some (.ref f0))) (l0:K.lookup f0=some ⟨oc0,od0,.func (fnOf "places_at" "places_at" (ϖC ϑE) (ϖB ϑE) (ϖm ϑE) .none kV0 dc0 pm0 an0 cd0 ct0),sl0⟩) (c0:codeIn K cd0 "places_at"=true) (k0:keepIn K (.ref f0)=true)
  (a1:nsIn K mainGlobals "traces_from"=some (some (.ref f1))) (l1:K.lookup f1=some ⟨oc1,od1,.func (fnOf "traces_from" "traces_from" (ϖC ϑj) (ϖB ϑj) (ϖm ϑj) .none kV1 dc1 pm1 an1 cd1 ct1),sl1⟩) (c1:codeIn K cd1 "traces_from"=true) (k1:keepIn K (.ref f1)=true)
  (a2:nsIn K mainGlobals "traces_from_begins"=some (some (.ref f2))) (l2:K.lookup f2=some ⟨oc2,od2,.func (fnOf "traces_from_begins" "traces_from_begins" (ϖC ϖH) (ϖB ϖH) (ϖm ϖH) .none kV2 dc2 pm2 an2 cd2 ct2),sl2⟩) (c2:codeIn K cd2 "traces_from_begins"=true) (k2:keepIn K (.ref f2)=true)
  (a3:nsIn K mainGlobals "traces_to_ends"=some (some (.ref f3))) (l3:K.lookup f3=some ⟨oc3,od3,.func (fnOf "traces_to_ends" "traces_to_ends" (ϖC ϖZ) (ϖB ϖZ) (ϖm ϖZ) .none kV3 dc3 pm3 an3 cd3 ct3),sl3⟩) (c3:codeIn K cd3 "traces_to_ends"=true) (k3:keepIn K (.ref f3)=true)
  (a4:nsIn K mainGlobals "trail_of"=some (some (.ref f4))) (l4:K.lookup f4=some ⟨oc4,od4,.func (fnOf "trail_of" "trail_of" (ϖC ϑO) (ϖB ϑO) (ϖm ϑO) .none kV4 dc4 pm4 an4 cd4 ct4),sl4⟩) (c4:codeIn K cd4 "trail_of"=true) (k4:keepIn K (.ref f4)=true)
  (a5:nsIn K mainGlobals "refuse_many_rooms"=some (some (.ref f5))) (l5:K.lookup f5=some ⟨oc5,od5,.func (fnOf "refuse_many_rooms" "refuse_many_rooms" (ϖC ϖL) (ϖB ϖL) (ϖm ϖL) .none kV5 dc5 pm5 an5 cd5 ct5),sl5⟩) (c5:codeIn K cd5 "refuse_many_rooms"=true) (k5:keepIn K (.ref f5)=true)
  (a6:nsIn K mainGlobals "two_of_each"=some (some (.ref f6))) (l6:K.lookup f6=some ⟨oc6,od6,.func (fnOf "two_of_each" "two_of_each" (ϖC ϑe) (ϖB ϑe) (ϖm ϑe) .none kV6 dc6 pm6 an6 cd6 ct6),sl6⟩) (c6:codeIn K cd6 "two_of_each"=true) (k6:keepIn K (.ref f6)=true)
  (a7:nsIn K mainGlobals "doubled_marks"=some (some (.ref f7))) (l7:K.lookup f7=some ⟨oc7,od7,.func (fnOf "doubled_marks" "doubled_marks" (ϖC ϖ5) (ϖB ϖ5) (ϖm ϖ5) .none kV7 dc7 pm7 an7 cd7 ct7),sl7⟩) (c7:codeIn K cd7 "doubled_marks"=true) (k7:keepIn K (.ref f7)=true)
  (a8:nsIn K mainGlobals "places_by_sign"=some (some (.ref f8))) (l8:K.lookup f8=some ⟨oc8,od8,.func (fnOf "places_by_sign" "places_by_sign" (ϖC ϖY) (ϖB ϖY) (ϖm ϖY) .none kV8 dc8 pm8 an8 cd8 ct8),sl8⟩) (c8:codeIn K cd8 "places_by_sign"=true) (k8:keepIn K (.ref f8)=true)
  (a9:nsIn K mainGlobals "doubled_steps"=some (some (.ref f9))) (l9:K.lookup f9=some ⟨oc9,od9,.func (fnOf "doubled_steps" "doubled_steps" (ϖC ϖ6) (ϖB ϖ6) (ϖm ϖ6) .none kV9 dc9 pm9 an9 cd9 ct9),sl9⟩) (c9:codeIn K cd9 "doubled_steps"=true) (k9:keepIn K (.ref f9)=true)
  (a10:nsIn K mainGlobals "doubled_of"=some (some (.ref f10))) (l10:K.lookup f10=some ⟨oc10,od10,.func (fnOf "doubled_of" "doubled_of" (ϖC ϑt) (ϖB ϑt) (ϖm ϑt) .none kV10 dc10 pm10 an10 cd10 ct10),sl10⟩) (c10:codeIn K cd10 "doubled_of"=true) (k10:keepIn K (.ref f10)=true)
  (a11:nsIn K mainGlobals "behind_one_another"=some (some (.ref f11))) (l11:K.lookup f11=some ⟨oc11,od11,.func (fnOf "behind_one_another" "behind_one_another" (ϖC ϖI) (ϖB ϖI) (ϖm ϖI) .none kV11 dc11 pm11 an11 cd11 ct11),sl11⟩) (c11:codeIn K cd11 "behind_one_another"=true) (k11:keepIn K (.ref f11)=true)
  (a12:nsIn K mainGlobals "words_ahead"=some (some (.ref f12))) (l12:K.lookup f12=some ⟨oc12,od12,.func (fnOf "words_ahead" "words_ahead" (ϖC ϑk) (ϖB ϑk) (ϖm ϑk) .none kV12 dc12 pm12 an12 cd12 ct12),sl12⟩) (c12:codeIn K cd12 "words_ahead"=true) (k12:keepIn K (.ref f12)=true)
  (a13:nsIn K mainGlobals "words_behind"=some (some (.ref f13))) (l13:K.lookup f13=some ⟨oc13,od13,.func (fnOf "words_behind" "words_behind" (ϖC ϖ_) (ϖB ϖ_) (ϖm ϖ_) .none kV13 dc13 pm13 an13 cd13 ct13),sl13⟩) (c13:codeIn K cd13 "words_behind"=true) (k13:keepIn K (.ref f13)=true)
  (a14:nsIn K mainGlobals "are_apart"=some (some (.ref f14))) (l14:K.lookup f14=some ⟨oc14,od14,.func (fnOf "are_apart" "are_apart" (ϖC ϑB) (ϖB ϑB) (ϖm ϑB) .none kV14 dc14 pm14 an14 cd14 ct14),sl14⟩) (c14:codeIn K cd14 "are_apart"=true) (k14:keepIn K (.ref f14)=true)
  (a15:nsIn K mainGlobals "way_apart_by_begin"=some (some (.ref f15))) (l15:K.lookup f15=some ⟨oc15,od15,.func (fnOf "way_apart_by_begin" "way_apart_by_begin" (ϖC ϖG) (ϖB ϖG) (ϖm ϖG) .none kV15 dc15 pm15 an15 cd15 ct15),sl15⟩) (c15:codeIn K cd15 "way_apart_by_begin"=true) (k15:keepIn K (.ref f15)=true)
  (a16:nsIn K mainGlobals "trail_from_begin"=some (some (.ref f16))) (l16:K.lookup f16=some ⟨oc16,od16,.func (fnOf "trail_from_begin" "trail_from_begin" (ϖC ϖR) (ϖB ϖR) (ϖm ϖR) .none kV16 dc16 pm16 an16 cd16 ct16),sl16⟩) (c16:codeIn K cd16 "trail_from_begin"=true) (k16:keepIn K (.ref f16)=true)
  (a17:nsIn K mainGlobals "way_apart_by_step"=some (some (.ref f17))) (l17:K.lookup f17=some ⟨oc17,od17,.func (fnOf "way_apart_by_step" "way_apart_by_step" (ϖC ϖN) (ϖB ϖN) (ϖm ϖN) .none kV17 dc17 pm17 an17 cd17 ct17),sl17⟩) (c17:codeIn K cd17 "way_apart_by_step"=true) (k17:keepIn K (.ref f17)=true)
  (a18:nsIn K mainGlobals "way_apart_by_end"=some (some (.ref f18))) (l18:K.lookup f18=some ⟨oc18,od18,.func (fnOf "way_apart_by_end" "way_apart_by_end" (ϖC ϖQ) (ϖB ϖQ) (ϖm ϖQ) .none kV18 dc18 pm18 an18 cd18 ct18),sl18⟩) (c18:codeIn K cd18 "way_apart_by_end"=true) (k18:keepIn K (.ref f18)=true)
  (a19:nsIn K mainGlobals "way_apart"=some (some (.ref f19))) (l19:K.lookup f19=some ⟨oc19,od19,.func (fnOf "way_apart" "way_apart" (ϖC ϑD) (ϖB ϑD) (ϖm ϑD) .none kV19 dc19 pm19 an19 cd19 ct19),sl19⟩) (c19:codeIn K cd19 "way_apart"=true) (k19:keepIn K (.ref f19)=true)
  (a20:nsIn K mainGlobals "single_way"=some (some (.ref f20))) (l20:K.lookup f20=some ⟨oc20,od20,.func (fnOf "single_way" "single_way" (ϖC ϑu) (ϖB ϑu) (ϖm ϑu) .none kV20 dc20 pm20 an20 cd20 ct20),sl20⟩) (c20:codeIn K cd20 "single_way"=true) (k20:keepIn K (.ref f20)=true)
  (a21:nsIn K mainGlobals "two_ways"=some (some (.ref f21))) (l21:K.lookup f21=some ⟨oc21,od21,.func (fnOf "two_ways" "two_ways" (ϖC ϑQ) (ϖB ϑQ) (ϖm ϑQ) .none kV21 dc21 pm21 an21 cd21 ct21),sl21⟩) (c21:codeIn K cd21 "two_ways"=true) (k21:keepIn K (.ref f21)=true)
  (a22:nsIn K mainGlobals "_law_cell_at"=some (some (.ref f22))) (l22:K.lookup f22=some ⟨oc22,od22,.func (fnOf "_law_cell_at" "_law_cell_at" (ϖC ϑl) (ϖB ϑl) (ϖm ϑl) .none kV22 dc22 pm22 an22 cd22 ct22),sl22⟩) (c22:codeIn K cd22 "_law_cell_at"=true) (k22:keepIn K (.ref f22)=true)
  (a23:nsIn K mainGlobals "_law_mixed"=some (some (.ref f23))) (l23:K.lookup f23=some ⟨oc23,od23,.func (fnOf "_law_mixed" "_law_mixed" (ϖC ϑA) (ϖB ϑA) (ϖm ϑA) .none kV23 dc23 pm23 an23 cd23 ct23),sl23⟩) (c23:codeIn K cd23 "_law_mixed"=true) (k23:keepIn K (.ref f23)=true)
  (a24:nsIn K mainGlobals "_law_copy"=some (some (.ref f24))) (l24:K.lookup f24=some ⟨oc24,od24,.func (fnOf "_law_copy" "_law_copy" (ϖC ϑR) (ϖB ϑR) (ϖm ϑR) .none kV24 dc24 pm24 an24 cd24 ct24),sl24⟩) (c24:codeIn K cd24 "_law_copy"=true) (k24:keepIn K (.ref f24)=true)
  (a25:nsIn K mainGlobals "_law_alone"=some (some (.ref f25))) (l25:K.lookup f25=some ⟨oc25,od25,.func (fnOf "_law_alone" "_law_alone" (ϖC ϑC) (ϖB ϑC) (ϖm ϑC) .none kV25 dc25 pm25 an25 cd25 ct25),sl25⟩) (c25:codeIn K cd25 "_law_alone"=true) (k25:keepIn K (.ref f25)=true)
  (a26:nsIn K mainGlobals "law"=some (some (.ref f26))) (l26:K.lookup f26=some ⟨oc26,od26,.func (fnOf "law" "law" (ϖC ϰF) (ϖB ϰF) (ϖm ϰF) .none kV26 dc26 pm26 an26 cd26 ct26),sl26⟩) (c26:codeIn K cd26 "law"=true) (k26:keepIn K (.ref f26)=true)
  (z0:nsIn K mainGlobals "ValueError"=some none)
  (z1:nsIn K mainGlobals "enumerate"=some none)
  (z2:nsIn K mainGlobals "isinstance"=some none)
  (z3:nsIn K mainGlobals "len"=some none)
  (z4:nsIn K mainGlobals "list"=some none)
  (z5:nsIn K mainGlobals "max"=some none)
  (z6:nsIn K mainGlobals "min"=some none)
  (z7:nsIn K mainGlobals "range"=some none)
  (z8:nsIn K mainGlobals "reversed"=some none)
  {gt0:Tok} (g0:nsIn K mainGlobals "BEGINS"=some (some (.int 2 gt0)))
  {gt1:Tok} (g1:nsIn K mainGlobals "ENDS"=some (some (.int 4 gt1)))
  {gt2:Tok} (g2:nsIn K mainGlobals "INTO"=some (some (.int 3 gt2)))
  {gt3:Tok} (g3:nsIn K mainGlobals "MOST_ROOMS_WITH_CHOICES"=some (some (.int 8 gt3)))
  {gt4:Tok} (g4:nsIn K mainGlobals "OUT_OF"=some (some (.int 0 gt4)))
  {gt5:Tok} (g5:nsIn K mainGlobals "PLACES"=some (some (.int 1 gt5)))
  {gt6:Tok} (g6:nsIn K mainGlobals "ROOMS"=some (some (.int 1 gt6)))
  {gt7:Tok} (g7:nsIn K mainGlobals "SIGNS"=some (some (.int 0 gt7)))
  {gt8:Tok} (g8:nsIn K mainGlobals "STEPS"=some (some (.int 3 gt8)))
  {gt9:Tok} (g9:nsIn K mainGlobals "WORDS"=some (some (.int 2 gt9)))
  (x0:nsIn K mainGlobals "ScribeError"=some (some (.ref ϖc)))
  (x1:nsIn K mainGlobals "NoWay"=some (some (.ref ϖu)))
  (x2:nsIn K mainGlobals "NoRoom"=some (some (.ref ϖo)))
  (x3:nsIn K mainGlobals "NotPlain"=some (some (.ref ϖh)))
  (x4:nsIn K mainGlobals "OtherSigns"=some (some (.ref ϖe)))
  (x5:nsIn K mainGlobals "TooMany"=some (some (.ref ϖb)))
  (x6:nsIn K mainGlobals "TwoWays"=some (some (.ref ϖl)))
  (x7:nsIn K mainGlobals "NeverPlain"=some (some (.ref ϖf)))
  (x8:nsIn K mainGlobals "NoText"=some (some (.ref ϖn)))
  (x9:PySem.W.excIn K ϖb bmV "ValueError.__new__"=true)
  (x10:findIn K (.ref ϖb) "__getattribute__"=some (some (.builtin "BaseException.__getattribute__")))
  (x11:findIn K (.ref ϖb) "__getattr__"=some none)
  (x12:mroIn K ϖb (.type "BaseException")=some true)
  (x13:(PySem.W.clsIn K ϖb).isSome=true)
  (x14:findIn K (.ref ϖb) "__class__"=some (some (.builtin "object.__class__")))
  (x15:PySem.W.specialIn K (.builtin "object.__class__") "__get__"=some (some (.builtin "getset_descriptor.__get__")))
  (x16:PySem.W.takesIn K (.builtin "object.__class__")=some true)
  (x17:mroIn K ϖb (.type "object")=some true)
  (x18:PySem.W.typeIn K (.ref ϖb)=some (.type "type"))
  (x19:(PySem.W.clsIn K ϖb).isSome=true)
  (x20:mroIn K ϖb (.type "BaseException")=some true)
  (x21:mroIn K ϖb (.ref ϖb)=some true)
  (x22:kitOne K (.ref ϖb) (.ref ϖn)=some false)
  (x23:kitOne K (.ref ϖb) (.ref ϖf)=some false)
  (x24:kitOne K (.ref ϖb) (.ref ϖl)=some false)
  (x25:kitOne K (.ref ϖb) (.ref ϖb)=some true)
  (x26:kitOne K (.ref ϖb) (.ref ϖe)=some false)
  (x27:kitOne K (.ref ϖb) (.ref ϖh)=some false)
  (x28:kitOne K (.ref ϖb) (.ref ϖo)=some false)
  (x29:kitOne K (.ref ϖb) (.ref ϖu)=some false)
  (x30:kitOne K (.ref ϖb) (.ref ϖc)=some true)
  (x31:kitOne K (.ref ϖb) (.type "ValueError")=some true) :
  ∃fd:FuncData,(∀ (s:Shared) (v:Value),BindsTo s fd ⟨[v],[]⟩ [("_law_script",v)])∧∀base:Heap,K.In base→base.Ns mainGlobals mg→FnOk l.prog w K mg base CX0 6 fa fd ["_law_script"] (ϵR K):=by
 have e:=hfa.symm.trans (mg_of X G a26)
 cases e
 have B:Bi mg:=⟨mg_none_of X G z0,mg_none_of X G z1,mg_none_of X G z2,mg_none_of X G z3,mg_none_of X G z4,mg_none_of X G z5,mg_none_of X G z6,mg_none_of X G z7,mg_none_of X G z8,⟨_,mg_of X G g0⟩,⟨_,mg_of X G g1⟩,⟨_,mg_of X G g2⟩,⟨_,mg_of X G g3⟩,⟨_,mg_of X G g4⟩,⟨_,mg_of X G g5⟩,⟨_,mg_of X G g6⟩,⟨_,mg_of X G g7⟩,⟨_,mg_of X G g8⟩,⟨_,mg_of X G g9⟩⟩
 have nm_ScribeError:=mg_of X G x0
 have nm_NoWay:=mg_of X G x1
 have nm_NoRoom:=mg_of X G x2
 have nm_NotPlain:=mg_of X G x3
 have nm_OtherSigns:=mg_of X G x4
 have nm_TooMany:=mg_of X G x5
 have nm_TwoWays:=mg_of X G x6
 have nm_NeverPlain:=mg_of X G x7
 have nm_NoText:=mg_of X G x8
 have own_TooMany:OwnX K mg "TooMany" ϖb:=⟨nm_TooMany,x9⟩
 have xc_TooMany:XCls K ϖb:=⟨x10,x11,x12,x13,x14,x15,x16,x17⟩
 have cl_TooMany:Clause K mg "TooMany" ϖb:=⟨nm_TooMany,x18,x19,x20⟩
 have sub_TooMany_TooMany:=x21
 have is_TooMany_NoText:=x22
 have is_TooMany_NeverPlain:=x23
 have is_TooMany_TwoWays:=x24
 have is_TooMany_TooMany:=x25
 have is_TooMany_OtherSigns:=x26
 have is_TooMany_NotPlain:=x27
 have is_TooMany_NoRoom:=x28
 have is_TooMany_NoWay:=x29
 have is_TooMany_ScribeError:=x30
 have iv_TooMany_ValueError:=x31
 have XB:Xb K mg ϖc ϖu ϖo ϖh ϖe ϖb ϖl ϖf ϖn:=⟨nm_ScribeError,nm_NoWay,nm_NoRoom,nm_NotPlain,nm_OtherSigns,nm_TooMany,nm_TwoWays,nm_NeverPlain,nm_NoText,own_TooMany,xc_TooMany,cl_TooMany,sub_TooMany_TooMany,is_TooMany_NoText,is_TooMany_NeverPlain,is_TooMany_TwoWays,is_TooMany_TooMany,is_TooMany_OtherSigns,is_TooMany_NotPlain,is_TooMany_NoRoom,is_TooMany_NoWay,is_TooMany_ScribeError,iv_TooMany_ValueError⟩
 have F0:=ϖ4 (st:=ϑE) l0 c0 k0
 have F1:=ϖ4 (st:=ϑj) l1 c1 k1
 have F2:=ϖ4 (st:=ϖH) l2 c2 k2
 have F3:=ϖ4 (st:=ϖZ) l3 c3 k3
 have F4:=ϖ4 (st:=ϑO) l4 c4 k4
 have F5:=ϖ4 (st:=ϖL) l5 c5 k5
 have F6:=ϖ4 (st:=ϑe) l6 c6 k6
 have F7:=ϖ4 (st:=ϖ5) l7 c7 k7
 have F8:=ϖ4 (st:=ϖY) l8 c8 k8
 have F9:=ϖ4 (st:=ϖ6) l9 c9 k9
 have F10:=ϖ4 (st:=ϑt) l10 c10 k10
 have F11:=ϖ4 (st:=ϖI) l11 c11 k11
 have F12:=ϖ4 (st:=ϑk) l12 c12 k12
 have F13:=ϖ4 (st:=ϖ_) l13 c13 k13
 have F14:=ϖ4 (st:=ϑB) l14 c14 k14
 have F15:=ϖ4 (st:=ϖG) l15 c15 k15
 have F16:=ϖ4 (st:=ϖR) l16 c16 k16
 have F17:=ϖ4 (st:=ϖN) l17 c17 k17
 have F18:=ϖ4 (st:=ϖQ) l18 c18 k18
 have F19:=ϖ4 (st:=ϑD) l19 c19 k19
 have F20:=ϖ4 (st:=ϑu) l20 c20 k20
 have F21:=ϖ4 (st:=ϑQ) l21 c21 k21
 have F22:=ϖ4 (st:=ϑl) l22 c22 k22
 have F23:=ϖ4 (st:=ϑA) l23 c23 k23
 have F24:=ϖ4 (st:=ϑR) l24 c24 k24
 have F25:=ϖ4 (st:=ϑC) l25 c25 k25
 have F26:=ϖ4 (st:=ϰF) l26 c26 k26
 refine⟨fnOf "law" "law" (ϖC ϰF) (ϖB ϰF) (ϖm ϰF) .none kV26 dc26 pm26 an26 cd26 ct26,fun s v=>.of_eq rfl,fun base _ _=>?_⟩
 have ϕx:Cal l.prog w K mg base "places_at" ["steps","side"] 1 (ϕ8 K):=⟨_,_,ϰT (P:=l.prog) (w:=w) (base:=base) B XB  F0,F0.binds (ps:=["steps","side"]) (fun _ _ _ _ _ _ us hl=>by obtain⟨u0,u1,rfl⟩:=ϰD hl;rfl),F0.kp,mg_of X G a0⟩
 have ϑi:Cal l.prog w K mg base "traces_from" ["marks","steps","near","far"] 2 (ϕH K):=⟨_,_,ϰk (P:=l.prog) (w:=w) (base:=base) B XB ϕx F1,F1.binds (ps:=["marks","steps","near","far"]) (fun _ _ _ _ _ _ us hl=>by obtain⟨u0,u1,u2,u3,rfl⟩:=len_4 hl;rfl),F1.kp,mg_of X G a1⟩
 have ϑm:Cal l.prog w K mg base "traces_from_begins" ["scribe"] 3 (ϵw K):=⟨_,_,ϑ_ (P:=l.prog) (w:=w) (base:=base) B XB ϑi F2,F2.binds (ps:=["scribe"]) (fun _ _ _ _ _ _ us hl=>by obtain⟨u0,rfl⟩:=ϕ0 hl;rfl),F2.kp,mg_of X G a2⟩
 have ϑK:Cal l.prog w K mg base "traces_to_ends" ["scribe"] 3 (ϵB K):=⟨_,_,ϕM (P:=l.prog) (w:=w) (base:=base) B XB ϑi F3,F3.binds (ps:=["scribe"]) (fun _ _ _ _ _ _ us hl=>by obtain⟨u0,rfl⟩:=ϕ0 hl;rfl),F3.kp,mg_of X G a3⟩
 have ϑh:Cal l.prog w K mg base "trail_of" ["room","traces","steps","near"] 1 (ϵc K):=⟨_,_,ϱe (P:=l.prog) (w:=w) (base:=base) B XB  F4,F4.binds (ps:=["room","traces","steps","near"]) (fun _ _ _ _ _ _ us hl=>by obtain⟨u0,u1,u2,u3,rfl⟩:=len_4 hl;rfl),F4.kp,mg_of X G a4⟩
 have ϑs:Cal1 l.prog w K mg base "refuse_many_rooms" ["scribe"] 1 (spMR K ϖb):=⟨_,_,ϕn (P:=l.prog) (w:=w) (base:=base) B XB  F5,F5.binds (ps:=["scribe"]) (fun _ _ _ _ _ _ us hl=>by obtain⟨u0,rfl⟩:=ϕ0 hl;rfl),F5.kp,mg_of X G a5⟩
 have ϑf:Cal l.prog w K mg base "two_of_each" ["keys"] 1 (ϵN K):=⟨_,_,ϰm (P:=l.prog) (w:=w) (base:=base) B XB  F6,F6.binds (ps:=["keys"]) (fun _ _ _ _ _ _ us hl=>by obtain⟨u0,rfl⟩:=ϕ0 hl;rfl),F6.kp,mg_of X G a6⟩
 have ϑw:Cal l.prog w K mg base "doubled_marks" ["marks"] 2 (spDM K):=⟨_,_,ϕ1 (P:=l.prog) (w:=w) (base:=base) B XB ϑf F7,F7.binds (ps:=["marks"]) (fun _ _ _ _ _ _ us hl=>by obtain⟨u0,rfl⟩:=ϕ0 hl;rfl),F7.kp,mg_of X G a7⟩
 have ϑL:Cal l.prog w K mg base "places_by_sign" ["steps"] 2 (spPS K):=⟨_,_,ϕJ (P:=l.prog) (w:=w) (base:=base) B XB ϑf F8,F8.binds (ps:=["steps"]) (fun _ _ _ _ _ _ us hl=>by obtain⟨u0,rfl⟩:=ϕ0 hl;rfl),F8.kp,mg_of X G a8⟩
 have ϑU:Cal l.prog w K mg base "doubled_steps" ["steps"] 3 (spDS K):=⟨_,_,ϕX (P:=l.prog) (w:=w) (base:=base) B XB ϑL F9,F9.binds (ps:=["steps"]) (fun _ _ _ _ _ _ us hl=>by obtain⟨u0,rfl⟩:=ϕ0 hl;rfl),F9.kp,mg_of X G a9⟩
 have ϑ9:Cal l.prog w K mg base "doubled_of" ["scribe"] 4 (spDb K):=⟨_,_,ϰy (P:=l.prog) (w:=w) (base:=base) B XB ϑw ϑU F10,F10.binds (ps:=["scribe"]) (fun _ _ _ _ _ _ us hl=>by obtain⟨u0,rfl⟩:=ϕ0 hl;rfl),F10.kp,mg_of X G a10⟩
 have ϖz:Cal l.prog w K mg base "behind_one_another" ["ahead","behind"] 1 (spB1 K):=⟨_,_,ϕc (P:=l.prog) (w:=w) (base:=base) B XB  F11,F11.binds (ps:=["ahead","behind"]) (fun _ _ _ _ _ _ us hl=>by obtain⟨u0,u1,rfl⟩:=ϰD hl;rfl),F11.kp,mg_of X G a11⟩
 have ϑg:Cal l.prog w K mg base "words_ahead" ["double","ahead"] 2 (spWA K):=⟨_,_,ϰn (P:=l.prog) (w:=w) (base:=base) B XB ϖz F12,F12.binds (ps:=["double","ahead"]) (fun _ _ _ _ _ _ us hl=>by obtain⟨u0,u1,rfl⟩:=ϰD hl;rfl),F12.kp,mg_of X G a12⟩
 have ϑa:Cal l.prog w K mg base "words_behind" ["double","behind"] 2 (spWB K):=⟨_,_,ϰa (P:=l.prog) (w:=w) (base:=base) B XB ϖz F13,F13.binds (ps:=["double","behind"]) (fun _ _ _ _ _ _ us hl=>by obtain⟨u0,u1,rfl⟩:=ϰD hl;rfl),F13.kp,mg_of X G a13⟩
 have ϖ8:Cal l.prog w K mg base "are_apart" ["ahead","behind"] 1 (spAp K):=⟨_,_,ϰQ (P:=l.prog) (w:=w) (base:=base) B XB  F14,F14.binds (ps:=["ahead","behind"]) (fun _ _ _ _ _ _ us hl=>by obtain⟨u0,u1,rfl⟩:=ϰD hl;rfl),F14.kp,mg_of X G a14⟩
 have ϑo:Cal l.prog w K mg base "way_apart_by_begin" ["double","behind"] 3 (ϡe K):=⟨_,_,ϕj (P:=l.prog) (w:=w) (base:=base) B XB ϑa ϖ8 ϑh F15,F15.binds (ps:=["double","behind"]) (fun _ _ _ _ _ _ us hl=>by obtain⟨u0,u1,rfl⟩:=ϰD hl;rfl),F15.kp,mg_of X G a15⟩
 have ϖS:Cal l.prog w K mg base "trail_from_begin" ["pair","ahead","double"] 2 (ϵ1 K):=⟨_,_,ϕq (P:=l.prog) (w:=w) (base:=base) B XB ϑh F16,F16.binds (ps:=["pair","ahead","double"]) (fun _ _ _ _ _ _ us hl=>by obtain⟨u0,u1,u2,rfl⟩:=ϲ5 hl;rfl),F16.kp,mg_of X G a16⟩
 have ϑr:Cal l.prog w K mg base "way_apart_by_step" ["double","ahead","behind"] 3 (ϲQ K):=⟨_,_,ϕp (P:=l.prog) (w:=w) (base:=base) B XB ϑg ϑa ϖ8 ϖz ϖS ϑh F17,F17.binds (ps:=["double","ahead","behind"]) (fun _ _ _ _ _ _ us hl=>by obtain⟨u0,u1,u2,rfl⟩:=ϲ5 hl;rfl),F17.kp,mg_of X G a17⟩
 have ϑy:Cal l.prog w K mg base "way_apart_by_end" ["double","ahead"] 3 (ϲ6 K):=⟨_,_,ϕv (P:=l.prog) (w:=w) (base:=base) B XB ϑg ϖ8 ϖS F18,F18.binds (ps:=["double","ahead"]) (fun _ _ _ _ _ _ us hl=>by obtain⟨u0,u1,rfl⟩:=ϰD hl;rfl),F18.kp,mg_of X G a18⟩
 have ϕs:Cal l.prog w K mg base "way_apart" ["double"] 4 (spWy K):=⟨_,_,ϰ9 (P:=l.prog) (w:=w) (base:=base) B XB ϑm ϑK ϑo ϑr ϑy F19,F19.binds (ps:=["double"]) (fun _ _ _ _ _ _ us hl=>by obtain⟨u0,rfl⟩:=ϕ0 hl;rfl),F19.kp,mg_of X G a19⟩
 have ϑV:Cal l.prog w K mg base "single_way" ["double","way","which"] 1 (spSg K):=⟨_,_,ϰB (P:=l.prog) (w:=w) (base:=base) B XB  F20,F20.binds (ps:=["double","way","which"]) (fun _ _ _ _ _ _ us hl=>by obtain⟨u0,u1,u2,rfl⟩:=ϲ5 hl;rfl),F20.kp,mg_of X G a20⟩
 have ϕK:Cal1 l.prog w K mg base "two_ways" ["scribe"] 5 (spTW K ϖb):=⟨_,_,ϱo (P:=l.prog) (w:=w) (base:=base) B XB ϑs ϑ9 ϕs ϑV F21,F21.binds (ps:=["scribe"]) (fun _ _ _ _ _ _ us hl=>by obtain⟨u0,rfl⟩:=ϕ0 hl;rfl),F21.kp,mg_of X G a21⟩
 have ϑ2:Cal l.prog w K mg base "_law_cell_at" ["_law_script","_law_k"] 1 (ϱ4 K):=⟨_,_,ϰj (P:=l.prog) (w:=w) (base:=base) B XB  F22,F22.binds (ps:=["_law_script","_law_k"]) (fun _ _ _ _ _ _ us hl=>by obtain⟨u0,u1,rfl⟩:=ϰD hl;rfl),F22.kp,mg_of X G a22⟩
 have ϑ4:Cal l.prog w K mg base "_law_mixed" ["_law_cell","_law_k"] 1 (ϱu):=⟨_,_,ϰW (P:=l.prog) (w:=w) (base:=base) B XB  F23,F23.binds (ps:=["_law_cell","_law_k"]) (fun _ _ _ _ _ _ us hl=>by obtain⟨u0,u1,rfl⟩:=ϰD hl;rfl),F23.kp,mg_of X G a23⟩
 have ϕQ:Cal l.prog w K mg base "_law_copy" ["_law_scribe"] 1 (ϰG K):=⟨_,_,ϱd (P:=l.prog) (w:=w) (base:=base) B XB  F24,F24.binds (ps:=["_law_scribe"]) (fun _ _ _ _ _ _ us hl=>by obtain⟨u0,rfl⟩:=ϕ0 hl;rfl),F24.kp,mg_of X G a24⟩
 have ϕu:Cal l.prog w K mg base "_law_alone" ["_law_error"] 1 (ϱl K ϖb):=⟨_,_,ϰ6 (P:=l.prog) (w:=w) (base:=base) B XB  F25,F25.binds (ps:=["_law_error"]) (fun _ _ _ _ _ _ us hl=>by obtain⟨u0,rfl⟩:=ϕ0 hl;rfl),F25.kp,mg_of X G a25⟩
 exact ok_law (P:=l.prog) (w:=w) (base:=base) B XB ϑ4 ϕQ ϑ2 ϕK ϕu F26
theorem walk {l:PySem.W.OpenLaw}{q:Program}{loose:List Str}{XP:(Str→Option Value)→Heap→Prop}{YP:World→Heap→Prop}{d:DefRec}{K:Params→Frag} (hn:l.most=some 63) (hdf:d.params.defaults=[])
  (hY:∀(w:World) (h:Heap),YP w h→(K w.params).In h)
  (F:∀(w:World) (mg:Str→Option Value) (fa:Addr) (h:Heap),(K w.params).In h→h.Ns mainGlobals mg→mg d.name=some (.ref fa) →
   ∃fd:FuncData,(∀ (s:Shared) (u:Value),BindsTo s fd ⟨[u],[]⟩ [("_law_script",u)])∧∀base:Heap,(K w.params).In base→base.Ns mainGlobals mg→FnOk l.prog w (K w.params) mg base CX0 6 fa fd ["_law_script"] (ϵR (K w.params))) :
  PySem.W.WalkO q loose XP YP l.row.toRowW d [] (fun f vs=>PySem.call f vs):=
 L2.walk_of (n:=63) (k:=6) (x:="_law_script") (CX:=fun _=>CX0) (sp:=fun w=>ϵR (K w.params)) hn (by decide) hdf ⟨rfl,by decide,by decide⟩ hY F (fun _ _ a ns hl _ hS=>⟨a,ns,rfl,hS,hl,fun _=>rfl⟩) fun _ _ _ _ _ z=>z
end My
open PySem PySem.W PyProof.Rows
set_option maxRecDepth 100000 in
set_option maxHeartbeats 0 in
theorem PySem.Challenge.cw_earlyscribe_k72_too_many_rooms_holds : PySem.Challenge.rw_earlyscribe_k72_too_many_rooms.Holds := by
 w_on;o_law
 refine holds_open (q:=My.q) (loose:=[]) (XP:=XL My.q []) (YP:=InK My.K) (N:=6010) My.hl (InK.of fun _=>rfl) InK.keeps
  (fun s z=>xl_of s (Bool.and_eq_true_iff.mp z).1) XL.keeps (by rfl) (by rfl) (by rfl)
  (fun s z=>recFacts_of (Bool.and_eq_true_iff.mp z).2) rfl (by assumption) (by decide +kernel)
  ⟨rfl,rfl,rfl,rfl,rfl,by decide +kernel⟩ ?hw ?hc
 (case hw=>w_witness2)
 k_fill
 refine My.walk (l:=PySem.Challenge.rw_earlyscribe_k72_too_many_rooms) rfl rfl (fun w h Y=>Y) ?F
 case F=>
  intro w mg fa h KX G hmg
  refine' My.all_mk KX G hmg ?a0 ?l0 ?c0 ?k0 ?a1 ?l1 ?c1 ?k1 ?a2 ?l2 ?c2 ?k2 ?a3 ?l3 ?c3 ?k3 ?a4 ?l4 ?c4 ?k4 ?a5 ?l5 ?c5 ?k5 ?a6 ?l6 ?c6 ?k6 ?a7 ?l7 ?c7 ?k7 ?a8 ?l8 ?c8 ?k8 ?a9 ?l9 ?c9 ?k9 ?a10 ?l10 ?c10 ?k10 ?a11 ?l11 ?c11 ?k11 ?a12 ?l12 ?c12 ?k12 ?a13 ?l13 ?c13 ?k13 ?a14 ?l14 ?c14 ?k14 ?a15 ?l15 ?c15 ?k15 ?a16 ?l16 ?c16 ?k16 ?a17 ?l17 ?c17 ?k17 ?a18 ?l18 ?c18 ?k18 ?a19 ?l19 ?c19 ?k19 ?a20 ?l20 ?c20 ?k20 ?a21 ?l21 ?c21 ?k21 ?a22 ?l22 ?c22 ?k22 ?a23 ?l23 ?c23 ?k23 ?a24 ?l24 ?c24 ?k24 ?a25 ?l25 ?c25 ?k25 ?a26 ?l26 ?c26 ?k26 ?z0 ?z1 ?z2 ?z3 ?z4 ?z5 ?z6 ?z7 ?z8 ?gc0 ?gc1 ?gc2 ?gc3 ?gc4 ?gc5 ?gc6 ?gc7 ?gc8 ?gc9 ?xq0 ?xq1 ?xq2 ?xq3 ?xq4 ?xq5 ?xq6 ?xq7 ?xq8 ?xq9 ?xq10 ?xq11 ?xq12 ?xq13 ?xq14 ?xq15 ?xq16 ?xq17 ?xq18 ?xq19 ?xq20 ?xq21 ?xq22 ?xq23 ?xq24 ?xq25 ?xq26 ?xq27 ?xq28 ?xq29 ?xq30 ?xq31
  (case a0=>k_is);(case l0=>k_is);(case c0=>k_is);(case k0=>k_is)
  (case a1=>k_is);(case l1=>k_is);(case c1=>k_is);(case k1=>k_is)
  (case a2=>k_is);(case l2=>k_is);(case c2=>k_is);(case k2=>k_is)
  (case a3=>k_is);(case l3=>k_is);(case c3=>k_is);(case k3=>k_is)
  (case a4=>k_is);(case l4=>k_is);(case c4=>k_is);(case k4=>k_is)
  (case a5=>k_is);(case l5=>k_is);(case c5=>k_is);(case k5=>k_is)
  (case a6=>k_is);(case l6=>k_is);(case c6=>k_is);(case k6=>k_is)
  (case a7=>k_is);(case l7=>k_is);(case c7=>k_is);(case k7=>k_is)
  (case a8=>k_is);(case l8=>k_is);(case c8=>k_is);(case k8=>k_is)
  (case a9=>k_is);(case l9=>k_is);(case c9=>k_is);(case k9=>k_is)
  (case a10=>k_is);(case l10=>k_is);(case c10=>k_is);(case k10=>k_is)
  (case a11=>k_is);(case l11=>k_is);(case c11=>k_is);(case k11=>k_is)
  (case a12=>k_is);(case l12=>k_is);(case c12=>k_is);(case k12=>k_is)
  (case a13=>k_is);(case l13=>k_is);(case c13=>k_is);(case k13=>k_is)
  (case a14=>k_is);(case l14=>k_is);(case c14=>k_is);(case k14=>k_is)
  (case a15=>k_is);(case l15=>k_is);(case c15=>k_is);(case k15=>k_is)
  (case a16=>k_is);(case l16=>k_is);(case c16=>k_is);(case k16=>k_is)
  (case a17=>k_is);(case l17=>k_is);(case c17=>k_is);(case k17=>k_is)
  (case a18=>k_is);(case l18=>k_is);(case c18=>k_is);(case k18=>k_is)
  (case a19=>k_is);(case l19=>k_is);(case c19=>k_is);(case k19=>k_is)
  (case a20=>k_is);(case l20=>k_is);(case c20=>k_is);(case k20=>k_is)
  (case a21=>k_is);(case l21=>k_is);(case c21=>k_is);(case k21=>k_is)
  (case a22=>k_is);(case l22=>k_is);(case c22=>k_is);(case k22=>k_is)
  (case a23=>k_is);(case l23=>k_is);(case c23=>k_is);(case k23=>k_is)
  (case a24=>k_is);(case l24=>k_is);(case c24=>k_is);(case k24=>k_is)
  (case a25=>k_is);(case l25=>k_is);(case c25=>k_is);(case k25=>k_is)
  (case a26=>k_is);(case l26=>k_is);(case c26=>k_is);(case k26=>k_is)
  (case z0=>k_is)
  (case z1=>k_is)
  (case z2=>k_is)
  (case z3=>k_is)
  (case z4=>k_is)
  (case z5=>k_is)
  (case z6=>k_is)
  (case z7=>k_is)
  (case z8=>k_is)
  (case gc0=>k_is)
  (case gc1=>k_is)
  (case gc2=>k_is)
  (case gc3=>k_is)
  (case gc4=>k_is)
  (case gc5=>k_is)
  (case gc6=>k_is)
  (case gc7=>k_is)
  (case gc8=>k_is)
  (case gc9=>k_is)
  (case xq0=>first|k_is|rfl|kernel_rfl)
  (case xq1=>first|k_is|rfl|kernel_rfl)
  (case xq2=>first|k_is|rfl|kernel_rfl)
  (case xq3=>first|k_is|rfl|kernel_rfl)
  (case xq4=>first|k_is|rfl|kernel_rfl)
  (case xq5=>first|k_is|rfl|kernel_rfl)
  (case xq6=>first|k_is|rfl|kernel_rfl)
  (case xq7=>first|k_is|rfl|kernel_rfl)
  (case xq8=>first|k_is|rfl|kernel_rfl)
  (case xq9=>first|k_is|rfl|kernel_rfl)
  (case xq10=>first|k_is|rfl|kernel_rfl)
  (case xq11=>first|k_is|rfl|kernel_rfl)
  (case xq12=>first|k_is|rfl|kernel_rfl)
  (case xq13=>first|k_is|rfl|kernel_rfl)
  (case xq14=>first|k_is|rfl|kernel_rfl)
  (case xq15=>first|k_is|rfl|kernel_rfl)
  (case xq16=>first|k_is|rfl|kernel_rfl)
  (case xq17=>first|k_is|rfl|kernel_rfl)
  (case xq18=>first|k_is|rfl|kernel_rfl)
  (case xq19=>first|k_is|rfl|kernel_rfl)
  (case xq20=>first|k_is|rfl|kernel_rfl)
  (case xq21=>first|k_is|rfl|kernel_rfl)
  (case xq22=>first|k_is|rfl|kernel_rfl)
  (case xq23=>first|k_is|rfl|kernel_rfl)
  (case xq24=>first|k_is|rfl|kernel_rfl)
  (case xq25=>first|k_is|rfl|kernel_rfl)
  (case xq26=>first|k_is|rfl|kernel_rfl)
  (case xq27=>first|k_is|rfl|kernel_rfl)
  (case xq28=>first|k_is|rfl|kernel_rfl)
  (case xq29=>first|k_is|rfl|kernel_rfl)
  (case xq30=>first|k_is|rfl|kernel_rfl)
  (case xq31=>first|k_is|rfl|kernel_rfl)
