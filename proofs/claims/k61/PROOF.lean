import PyProof.Rows.All
import Wide.All
import OpenK.AllK
import Wide.FinOn
import Lean
import PyProof.EqAt
import PyProof.EqKinds
import PyProof.TupleCall
import PySem.Challenge.RW_earlyscribe_k61_one_behind_the_other
set_option maxHeartbeats 4000000
set_option Elab.async false
set_option linter.all false
set_option maxRecDepth 100000
namespace L2
open PySem PySem.Spec PyProof.Rows
abbrev Key:=Sum Int Str
def ϲO:Key→Value→Bool
 |.inl k,v=>Value.isInt k v
 |.inr x,v=>Value.isStrOf x v
def keyH (w:World):Key→Int
 |.inl k=>hashInt k
 |.inr x=>hashStr w x
theorem ϖ0:∀{k:Key}{v:Value},ϲO k v=true→(∃ i t,k=Sum.inl i∧v=Value.int i t)∨(∃ x t,k=Sum.inr x∧v=Value.str x t)
 |.inl i,v,h=>by
  obtain⟨t,e⟩:=Value.isInt_shape (k:=i) (v:=v) h
  exact .inl ⟨i,t,rfl,e⟩
 |.inr x,v,h=>by
  obtain⟨t,e⟩:=Value.isStrOf_shape (x:=x) (v:=v) h
  exact .inr ⟨x,t,rfl,e⟩
theorem ϲY (i:Int) (t:Tok):ϲO (.inl i) (.int i t)=true:=by simp[ϲO,Value.isInt]
theorem ϲ6 (x:Str) (t:Tok):ϲO (.inr x) (.str x t)=true:=by simp[ϲO,Value.isStrOf]
theorem key_ll (a b:Int):decide ((Sum.inl a:Key)=Sum.inl b)=(a == b):=by
 by_cases e:a=b
 ·subst e;simp
 ·have h:¬ (Sum.inl a:Key)=Sum.inl b:=fun q=>e (Sum.inl.inj q)
  rw[decide_eq_false h]
  exact(beq_eq_false_iff_ne.mpr e).symm
theorem key_rr (a b:Str):decide ((Sum.inr a:Key)=Sum.inr b)=decide (a=b):=by
 by_cases e:a=b
 ·subst e;simp
 ·have h:¬ (Sum.inr a:Key)=Sum.inr b:=fun q=>e (Sum.inr.inj q)
  rw[decide_eq_false h,decide_eq_false e]
theorem key_lr (a:Int) (b:Str):decide ((Sum.inl a:Key)=Sum.inr b)=false:=decide_eq_false (fun q=>nomatch q)
theorem key_rl (a:Str) (b:Int):decide ((Sum.inr a:Key)=Sum.inl b)=false:=decide_eq_false (fun q=>nomatch q)
def ϖv (prog:Program) (w:World):PySem.KeyKind prog w Key where
 is:=ϲO
 hash:=keyH w
 inj:=fun v a b ha hb=>by
  rcases ϖ0 ha with⟨i,t,rfl,rfl⟩|⟨x,t,rfl,rfl⟩
  ·rcases ϖ0 hb with⟨j,u,rfl,e⟩|⟨y,u,rfl,e⟩
   ·injection e with e1 _;rw[e1]
   ·exact nomatch e
  ·rcases ϖ0 hb with⟨j,u,rfl,e⟩|⟨y,u,rfl,e⟩
   ·exact nomatch e
   ·injection e with e1 _;rw[e1]
 byValue:=fun k v h=>by
  rcases ϖ0 h with⟨i,t,rfl,rfl⟩|⟨x,t,rfl,rfl⟩<;>rfl
 pyHash:=fun hv h=>by
  rcases ϖ0 hv with⟨i,t,rfl,rfl⟩|⟨x,t,rfl,rfl⟩
  ·exact wpAny_pyHash_int h
  ·exact wpAny_pyHash_str h
 eqBool:=fun hu hv h=>by
  rcases ϖ0 hu with⟨i,t,rfl,rfl⟩|⟨x,t,rfl,rfl⟩
  ·rcases ϖ0 hv with⟨j,u,rfl,rfl⟩|⟨y,u,rfl,rfl⟩
   ·rw[key_ll] at h;exact wpAny_eqBool_int h
   ·rw[key_lr] at h;exact SeqAt.EqAt.int_str i t y u _ _ _ _ h
  ·rcases ϖ0 hv with⟨j,u,rfl,rfl⟩|⟨y,u,rfl,rfl⟩
   ·rw[key_rl] at h;exact SeqAt.EqAt.str_int x t j u _ _ _ _ h
   ·rw[key_rr] at h;exact wpAny_eqBool_str h
 «strs»:=fun k x t v h=>by
  rcases ϖ0 h with⟨i,u,rfl,e⟩|⟨y,u,rfl,e⟩
  ·exact nomatch e
  ·injection e with e1 _
   subst e1
   cases v<;>rfl
theorem ϡu (prog:Program) (w:World) (i:Int) (t:Tok):(ϖv prog w).is (.inl i) (.int i t)=true:=ϲY i t
theorem ϡm (prog:Program) (w:World) (x:Str) (t:Tok):(ϖv prog w).is (.inr x) (.str x t)=true:=ϲ6 x t
end L2
namespace L2
open PySem PySem.Spec PyProof.Rows
inductive V where
 |non|bl (b:Bool)|int (i:Int)|str (x:Str)|byt (b:Array UInt8)|flt (b:UInt64)|ref (a:Addr)|ty (n:String)
 deriving DecidableEq
def RelV:V→Value→Prop
 |.non,u=>u=Value.none
 |.bl b,u=>u=Value.bool b
 |.int i,u=>∃t,u=Value.int i t
 |.str x,u=>∃t,u=Value.str x t
 |.byt b,u=>∃t,u=Value.bytes b t
 |.flt b,u=>∃t,u=Value.float b t
 |.ref a,u=>u=Value.ref a
 |.ty n,u=>u=Value.type n
abbrev Vals:List V→List Value→Prop:=Paired RelV
theorem Vals.length {xs:List V}{us:List Value} (r:Vals xs us):xs.length=us.length:=Paired.length r
theorem Vals.get:∀{xs:List V}{us:List Value}{i:Nat}{x:V},Vals xs us→xs[i]?=some x→∃u,us[i]?=some u∧RelV x u
 |_,_,_,_,.nil,e=>by simp at e
 |_,_,0,_,.cons r _,e=>by simp at e;subst e;exact⟨_,rfl,r⟩
 |_,_,i+1,x,.cons _ t,e=>by
  obtain⟨u,h1,h2⟩:=Vals.get (i:=i) (x:=x) t (by simpa using e)
  exact⟨u,by simpa using h1,h2⟩
theorem Vals.append:∀{xs ys:List V}{us ws:List Value},Vals xs us→Vals ys ws→Vals (xs++ys) (us++ws)
 |_,_,_,_,.nil,s=>s
 |_,_,_,_,.cons r t,s=>.cons r (Vals.append t s)
def RelO:Option V→Option Value→Prop
 |some v,some u=>RelV v u
 |none,none=>True
 |_,_=>False
def KV {κ:Type}:List (κ×V)→List (κ×Value)→Prop:=Paired fun (p:κ×V) (q:κ×Value)=>p.1=q.1∧RelV p.2 q.2
def kV:Key→V
 |.inl i=>.int i
 |.inr x=>.str x
inductive HO where
 |lst (xs:List V)
 |tup (xs:List V)
 |dK (kvs:List (Key×V))|dT (kvs:List (List Key×V))
 |set (S:Int→Bool) (n:Nat)
 |ins (C dx:Addr) (fs:List (Str×V))
 |own (x:Addr)
 |xd (fs:List (Str×V))
 |met (f x:Addr)
 |rng (lo hi:Int)
 |frz (o:Obj) (u:HO)
 |tbl (ps:Array Value)
 |ext (φ:Heap→Prop)
abbrev Hp:=Addr→Option HO
def upd (H:Hp) (a:Addr) (o:HO):Hp:=fun b=>if b=a then some o else H b
theorem ϖc {H:Hp}{a:Addr}{o:HO}:upd H a o a=some o:=by unfold upd;rw[if_pos rfl]
theorem ϖp {H:Hp}{a b:Addr}{o:HO} (h:b≠a):upd H a o b=H b:=by unfold upd;rw[if_neg h]
theorem ne_of {H:Hp}{a b:Addr}{o u:HO} (h:H a=some o) (h':H b=some u) (d:o≠u):a≠b:=by
 intro e;subst e;rw[h] at h';exact d (Option.some.inj h')
theorem ϖs {H:Hp}{a b:Addr}{o:HO} (h:H a=some o) (h':H b=none):a≠b:=by
 intro e;subst e;rw[h] at h';cases h'
section
variable (P:Program) (w:World)
def ObjOk (H:Hp) (h:Heap) (a:Addr):HO→Prop
 |.lst xs=>xs.length≤sizeLine∧∃(its:List Value) (n:Nat),Vals xs its∧h.get? a=some { cls:=.type "list",data:=.seq its.toArray n }
 |.tup xs=>xs.length≤sizeLine∧∃its:List Value,Vals xs its∧IsTup h a its.toArray
 |.dK kvs=>kvs.length≤sizeLine∧(a == sysModules)=false∧∃vs,KV kvs vs∧h.DictOf (ϖv P w) a vs
 |.dT kvs=>kvs.length≤sizeLine∧(a == sysModules)=false∧∃xs:List (List Key×Addr×Value),
   Paired (fun (p:List Key×V) (q:List Key×Addr×Value)=>p.1=q.1∧H q.2.1=some (.tup (p.1.map kV))∧RelV p.2 q.2.2) kvs xs ∧
   ∃o es ep,h.get? a=some o∧o.ExactDict∧o.data=.dict es ep∧es.toList=xs.map (entryOfKey (tupleKind (ϖv P w)))∧(xs.map (·.1)).Nodup
 |.set S n=>h.SetOf (intKind P w) a S n
 |.ins C dx fs=>H dx=some (.own a)∧fs.length≤1000∧dx≠a∧h.get? a=some (PySem.W.instObj C dx) ∧
   ∃mA,h.Ns1 dx mA∧(∀ f,RelO (fs.lookup f) (mA f))∧PySem.Within mA (fs.map (·.1))
 |.own _=>∃o,h.get? a=some o
 |.xd fs=>∃mA,h.Ns1 a mA∧∀f,RelO (fs.lookup f) (mA f)
 |.rng lo hi=>∃t u v,h.get? a=some { cls:=.type "range",data:=.fields #[.int lo t,.int hi u,.int 1 v] }
 |.frz o u=>h.get? a=some o∧ObjOk H h a u
 |.tbl ps=>h.get? a=some { cls:=.none,data:=.fields ps }
 |.met f x=>h.get? a=some (PySem.W.methodObj (.ref f) (.ref x))
 |.ext φ=>φ h∧(∃ o,h.get? a=some o)∧∀h1 h2:Heap,φ h1→(∀ o,h1.get? a=some o→h2.get? a=some o)→φ h2
def HOk (H:Hp) (h:Heap):Prop:=∀a o,H a=some o→ObjOk P w H h a o
end
section
variable {P:Program}{w:World}{H H':Hp}{h h':Heap}{a:Addr}{o:HO}
theorem ObjOk.lt (x:ObjOk P w H h a o):a < h.objs.size:=by
 cases o with
 |lst xs=>obtain⟨_,_,_,_,e⟩:=x;exact Heap.lt_size e
 |tup xs=>obtain⟨_,_,_,p⟩:=x;exact p.lt
 |dK kvs=>obtain⟨_,_,_,_,o,_,_,e,_⟩:=x;exact Heap.lt_size e
 |dT kvs=>obtain⟨_,_,_,_,o,_,_,e,_⟩:=x;exact Heap.lt_size e
 |set S n=>obtain⟨o,_,_,_,e,_⟩:=x;exact Heap.lt_size e
 |ins C dx fs=>obtain⟨_,_,_,e,_⟩:=x;exact Heap.lt_size e
 |own y=>obtain⟨_,e⟩:=x;exact Heap.lt_size e
 |xd fs=>obtain⟨_,⟨_,_,_,e,_⟩,_⟩:=x;exact Heap.lt_size e
 |rng lo hi=>obtain⟨_,_,_,e⟩:=x;exact Heap.lt_size e
 |frz ob u=>obtain⟨e,_⟩:=x;exact Heap.lt_size e
 |tbl ps=>exact Heap.lt_size (show h.get? a=some _ from x)
 |met f y=>exact Heap.lt_size (show h.get? a=some _ from x)
 |ext φ=>obtain⟨_,⟨_,e⟩,_⟩:=x;exact Heap.lt_size e
theorem Paired.mapP {α β:Type}{F G:α→β→Prop}:∀{l₁:List α}{l₂:List β},Paired F l₁ l₂→(∀ a b,F a b→G a b)→Paired G l₁ l₂
 |_,_,.nil,_=>.nil
 |_,_,.cons r t,f=>.cons (f _ _ r) (Paired.mapP t f)
theorem ObjOk.stay (x:ObjOk P w H h a o) (k:∀b u,(b=a∨H b=some (.own a))→h.get? b=some u→h'.get? b=some u)
  (ho:∀b,H b=some (.own a)→H' b=some (.own a)) (ht:∀b xs,H b=some (.tup xs)→H' b=some (.tup xs)):ObjOk P w H' h' a o:=by
 induction o with
 |lst xs=>obtain⟨z,its,n,r,e⟩:=x;exact⟨z,its,n,r,k _ _ (.inl rfl) e⟩
 |tup xs=>obtain⟨z,its,r,ob,e,c⟩:=x;exact⟨z,its,r,ob,k _ _ (.inl rfl) e,c⟩
 |dK kvs=>obtain⟨z,y,vs,r,ob,es,ep,e,c⟩:=x;exact⟨z,y,vs,r,ob,es,ep,k _ _ (.inl rfl) e,c⟩
 |dT kvs=>
  obtain⟨z,y,xs,r,ob,es,ep,e,c⟩:=x
  exact⟨z,y,xs,Paired.mapP r fun p q z=>⟨z.1,ht _ _ z.2.1,z.2.2⟩,ob,es,ep,k _ _ (.inl rfl) e,c⟩
 |set S n=>obtain⟨ob,es,ep,t,e,c⟩:=x;exact⟨ob,es,ep,t,k _ _ (.inl rfl) e,c⟩
 |ins C dx fs=>
  obtain⟨d,z,ne,e,mA,⟨od,es,ep,e2,c⟩,r⟩:=x
  exact⟨ho _ d,z,ne,k _ _ (.inl rfl) e,mA,⟨od,es,ep,k _ _ (.inr d) e2,c⟩,r⟩
 |own y=>obtain⟨ob,e⟩:=x;exact⟨ob,k _ _ (.inl rfl) e⟩
 |xd fs=>obtain⟨mA,⟨od,es,ep,e,c⟩,r⟩:=x;exact⟨mA,⟨od,es,ep,k _ _ (.inl rfl) e,c⟩,r⟩
 |rng lo hi=>obtain⟨t,u,v,e⟩:=x;exact⟨t,u,v,k _ _ (.inl rfl) e⟩
 |frz ob u ih=>obtain⟨e,q⟩:=x;exact⟨k _ _ (.inl rfl) e,ih q⟩
 |tbl ps=>
  have e:h.get? a=some { cls:=.none,data:=.fields ps }:=x
  show h'.get? a=some { cls:=.none,data:=.fields ps }
  exact k a _ (.inl rfl) e
 |met f y=>
  have e:h.get? a=some (PySem.W.methodObj (.ref f) (.ref y)):=x
  show h'.get? a=some (PySem.W.methodObj (.ref f) (.ref y))
  exact k a _ (.inl rfl) e
 |ext φ=>obtain⟨p,⟨o,e⟩,st⟩:=x;exact⟨st _ _ p fun o q=>k _ _ (.inl rfl) q,⟨o,k _ _ (.inl rfl) e⟩,st⟩
theorem HOk.lt (x:HOk P w H h) (e:H a=some o):a < h.objs.size:=(x a o e).lt
theorem HOk.fresh (x:HOk P w H h) (e:h.objs.size≤a):H a=none:=by
 cases q:H a with
 |none=>rfl
 |some u=>exact absurd (Nat.lt_of_lt_of_le (x.lt q) e) (Nat.lt_irrefl _)
theorem HOk.kept (x:HOk P w H h) (k:∀b u,h.get? b=some u→h'.get? b=some u):HOk P w H h':=fun a o e=>
 (x a o e).stay (fun b u _ q=>k b u q) (fun _ q=>q) fun _ _ q=>q
theorem HOk.laid (x:HOk P w H h) (k:∀b u,h.get? b=some u→h'.get? b=some u) (hp:h.objs.size≤a) (new:ObjOk P w (upd H a o) h' a o):HOk P w (upd H a o) h':=fun b u e=>by
 have hn:=x.fresh hp
 by_cases hb:b=a
 ·subst hb;rw[ϖc] at e;cases e;exact new
 ·rw[ϖp hb] at e
  exact(x b u e).stay (fun c v _ q=>k c v q) (fun c q=>by rw[ϖp (ϖs q hn)];exact q) fun c xs q=>by rw[ϖp (ϖs q hn)];exact q
end
def Rd (H:Hp) (a:Addr) (u:HO):Prop:=H a=some u∨∃o,H a=some (.frz o u)
theorem Rd.ok {P:Program}{w:World}{H:Hp}{h:Heap}{a:Addr}{u:HO} (r:Rd H a u) (x:HOk P w H h):ObjOk P w H h a u:=by
 rcases r with r|⟨o,r⟩
 ·exact x a u r
 ·obtain⟨_,q⟩:=x a _ r
  exact q
def Mut:Option HO→Prop
 |some (.lst _)=>True
 |some (.dK _)=>True
 |some (.dT _)=>True
 |some (.set _ _)=>True
 |some (.ins _ _ _)=>True
 |some (.ext _)=>True
 |_=>False
section
variable {P:Program}{w:World}{H:Hp}{h h':Heap}{x e:Addr}{o':HO}
theorem HOk.write (ok:HOk P w H h) (mu:Mut (H x)) (he:e=x∨H e=some (.own x)) (k:∀b u,b≠e→h.get? b=some u→h'.get? b=some u) (heo:∃u,h'.get? e=some u)
  (new:ObjOk P w (upd H x o') h' x o'):HOk P w (upd H x o') h':=fun b u q=>by
 have nown:∀c y,H c=some (.own y)→c≠x:=fun c y r z=>by subst z;rw[r] at mu;exact mu
 have ntup:∀c xs,H c=some (.tup xs)→c≠x:=fun c xs r z=>by subst z;rw[r] at mu;exact mu
 by_cases hb:b=x
 ·subst hb;rw[ϖc] at q;cases q;exact new
 ·rw[ϖp hb] at q
  by_cases hbe:b=e
  ·have q':H b=some (.own x):=by
    rcases he with z|z
    ·exact absurd (hbe.trans z) hb
    ·rw[hbe];exact z
   rw[q] at q';cases q'
   obtain⟨v,hv⟩:=heo
   exact⟨v,by rw[hbe];exact hv⟩
  ·refine(ok b u q).stay (fun c v hc r=>k c v ?_ r) (fun c r=>by rw[ϖp (nown c b r)];exact r) fun c xs r=>by rw[ϖp (ntup c xs r)];exact r
   rcases hc with rfl|hc
   ·exact hbe
   ·rintro rfl
    rcases he with z|z
    ·exact nown c b hc z
    ·rw[hc] at z;cases z;exact hb rfl
end
structure Un (fs ex:List Addr) (H H':Hp) (h h':Heap):Prop where
 keep:∀b o,h.get? b=some o→H b=none→b∉fs→b∉ex→h'.get? b=some o
 slot:∀b o,h.get? b=some o→H b=none→b∈fs→b∉ex→∃sl,h'.get? b=some { o with slots:=sl }
 free:∀b o,h.get? b=some o→H b=none→b∉ex→H' b=none
 there:∀b o,h.get? b=some o→b∉ex→∃o',h'.get? b=some o'
 tups:∀b xs,H b=some (.tup xs)→H' b=some (.tup xs)
 frzs:∀b o u,H b=some (.frz o u)→H' b=some (.frz o u)
 tbls:∀b ps,H b=some (.tbl ps)→∃more,H' b=some (.tbl (ps++more))
section
variable {fs fs' ex ex':List Addr}{H H1 H2:Hp}{h h1 h2 h':Heap}{a x e:Addr}{o:HO}
theorem Un.any (u:Un fs ex H H1 h h1) {b:Addr}{ob:Obj} (q:h.get? b=some ob) (n:H b=none) (hx:b∉ex):∃sl,h1.get? b=some { ob with slots:=sl }:=by
 by_cases hb:b∈fs
 ·exact u.slot b ob q n hb hx
 ·exact⟨ob.slots,u.keep b ob q n hb hx⟩
theorem Un.kept (k:∀b u,h.get? b=some u→h'.get? b=some u):Un fs ex H H h h':=
 ⟨fun b ob q _ _ _=>k b ob q,fun b ob q _ _ _=>⟨ob.slots,k b ob q⟩,fun _ _ _ n _=>n,fun b ob q _=>⟨ob,k b ob q⟩,fun _ _ q=>q,fun _ _ _ q=>q,fun _ ps q=>⟨#[],by rw[q];simp⟩⟩
theorem Un.refl:Un fs ex H H h h:=Un.kept fun _ _ q=>q
theorem Un.laid (k:∀b u,h.get? b=some u→h'.get? b=some u) (hp:h.objs.size≤a) (hn:H a=none):Un fs ex H (upd H a o) h h' where
 keep:=fun b u q _ _ _=>k b u q
 slot:=fun b u q _ _ _=>⟨u.slots,k b u q⟩
 free:=fun b u q n _=>by rw[ϖp (Nat.ne_of_lt (Nat.lt_of_lt_of_le (Heap.lt_size q) hp))];exact n
 there:=fun b u q _=>⟨u,k b u q⟩
 tups:=fun b xs q=>by rw[ϖp (ϖs q hn)];exact q
 frzs:=fun b u xs q=>by rw[ϖp (ϖs q hn)];exact q
 tbls:=fun b ps q=>⟨#[],by rw[ϖp (ϖs q hn),q];simp⟩
theorem Un.write (mu:Mut (H x)) (he:e=x∨H e=some (.own x)) (k:∀b u,b≠e→h.get? b=some u→h'.get? b=some u) (heo:∃u,h'.get? e=some u):Un fs ex H (upd H x o) h h':=by
 have hx:∀b,H b=none→b≠x:=fun b n z=>by subst z;rw[n] at mu;exact mu
 have hb:∀b,H b=none→b≠e:=fun b n z=>by
  subst z
  rcases he with r|r
  ·exact hx b n r
  ·rw[n] at r;cases r
 have hm:∀b u,H b=some u→¬ Mut (some u)→b≠x:=fun b u q nm z=>by subst z;rw[q] at mu;exact nm mu
 refine⟨fun b u q n _ _=>k b u (hb b n) q,fun b u q n _ _=>⟨u.slots,k b u (hb b n) q⟩,fun b u q n _=>by rw[ϖp (hx b n)];exact n,fun b u q _=>?_,
  fun b xs q=>by rw[ϖp (hm b _ q fun z=>z)];exact q,fun b u xs q=>by rw[ϖp (hm b _ q fun z=>z)];exact q,fun b ps q=>⟨#[],by rw[ϖp (hm b _ q fun z=>z),q];simp⟩⟩
 by_cases hbe:b=e
 ·subst hbe;exact heo
 ·exact⟨u,k b u hbe q⟩
end
def trk (h:Heap) (H:Hp):List Addr:=(List.range h.objs.size).filter fun a=>(H a).isSome
def hidT (h:Heap) (H:Hp):Heap:=PySem.W.hideAll h (trk h H)
theorem ϟ5 (h:Heap) (H:Hp):(hidT h H).objs.size=h.objs.size:=PySem.W.hideAll_size _ _
theorem ϛi {h:Heap}{H:Hp}{b:Addr}{o:Obj} (e:h.get? b=some o) (n:H b=none):(hidT h H).get? b=some o:=
 PySem.W.hideAll_get _ e fun hm=>by
  have q:(H b).isSome=true:=(List.mem_filter.mp hm).2
  rw[n] at q;simp at q
theorem of_hidT {h:Heap}{H:Hp}{b:Addr}{o:Obj} (e:(hidT h H).get? b=some o):h.get? b=some o∧H b=none:=by
 have e':h.get? b=some o:=PySem.W.of_hideAll (trk h H) e
 refine⟨e',?_⟩
 cases q:H b with
 |none=>rfl
 |some x=>
  have hm:b∈trk h H:=List.mem_filter.mpr ⟨List.mem_range.mpr (Heap.lt_size e'),by simp[q]⟩
  have z:(hidT h H).get? b=none:=PySem.W.hideAll_none (trk h H) hm
  rw[z] at e;cases e
def allNews (g h:Heap) (L:Addr):List (Addr×Obj):=(List.range h.objs.size).filterMap fun a=>if a=L∨(g.get? a).isSome=true then none else (h.get? a).map fun o=>(a,o)
def rest (g h:Heap) (L d:Addr):List (Addr×Obj):=(allNews g h L).filter fun p=>decide (p.1≠d)
end L2
namespace L2
open PySem PySem.Spec PyProof.Rows
structure Mod (K:PySem.W.Frag) (mg:Str→Option Value) (base:Heap):Prop where
 kin:K.In base
 glob:base.Ns mainGlobals mg
 blt:∃mb,base.Ns builtinsNs mb∧∀x:Str,x≠"__name__"→mb x=bootBuiltins x
 nolimit:base.NoLimit
structure Cx where
 prog:Program
 w:World
 K:PySem.W.Frag
 mg:Str→Option Value
 base:Heap
 A:Around
 N:List Str
 s₀:Shared
 H₀:Hp
 env:Env
 outer:List Env
 stack:List Env
 ex:List Addr
 fn:Str→Bool
 calm:Bool
 pn:List (Addr×Obj)
 xe:Value→Shared→Prop
def frs (l:List Env):List Addr:=l.filterMap (·.frame)
abbrev Cx.fs (X:Cx):List Addr:=frs X.outer
def Vis (sc:Scope) (x:Str):Prop:=sc.names.lookup x=some .local∨sc.names.lookup x=some .cell∨sc.names.lookup x=some .free
def Loc (sc:Scope) (x:Str):Prop:=sc.names.lookup x=some .local∨sc.names.lookup x=some .cell
def Look (env:Env) (h:Heap) (m:Str→Option Value) (x:Str) (u:Value):Prop:=
 (env.kindOf x=some .local∧m x=some u)∨((env.kindOf x=some .cell∨env.kindOf x=some .free)∧∃c,env.cells.lookup x=some c∧h.IsCell c (some u))
structure Cx.Ok (X:Cx):Prop where
 mod:Mod X.K X.mg X.base
 kind:X.env.scope.kind=.function
 glob:X.env.globals=mainGlobals
 blt:X.env.builtins=builtinsNs
 above:X.s₀.heap.objs.size≤X.env.locals
 inj:∀x y c,X.env.cells.lookup x=some c→X.env.cells.lookup y=some c→x=y
 has:∀x,(X.env.kindOf x=some .cell∨X.env.kindOf x=some .free)→∃c,X.env.cells.lookup x=some c
 cab:∀x c,X.fn x=true→X.env.cells.lookup x=some c→X.s₀.heap.objs.size≤c
 hd:X.calm=true→X.A.handled=none
 frames:X.A.frames=some X.stack
 stk:X.stack=X.outer∨(X.stack=X.env::X.outer∧X.env.frame=some X.env.locals)
 exf:∀b∈X.ex,b≠X.env.locals∧∀x c,X.env.cells.lookup x=some c→c≠b
 bs:∀b o,X.base.get? b=some o→X.s₀.heap.get? b=some o∧X.H₀ b=none
 bsz:X.base.objs.size≤X.s₀.heap.objs.size
 noex:∀b o,X.base.get? b=some o→b∉X.ex
 exfs:∀b∈X.ex,b∉X.fs
 funs:X.s₀.heap.FunFrames X.base X.outer
 frf:∀b∈X.fs,X.H₀ b=none
structure Inv (X:Cx) (pins:List (Addr×Obj)) (σ:List (Option V)) (H:Hp) (s:Shared):Prop where
 ok:X.Ok
 os:s.os=X.s₀.os
 bare:AllBare s.gens
 base:Un X.fs X.ex X.H₀ H X.s₀.heap s.heap
 loc:∃m,s.heap.Ns X.env.locals m∧∀(i:Nat) (x:Str) (v:V),X.N[i]?=some x→σ[i]?=some (some v)→Vis X.env.scope x→∃u,RelV v u∧Look X.env s.heap m x u
 cell:∀x c,X.env.cells.lookup x=some c→∃v,s.heap.IsCell c v
 free:H X.env.locals=none
 freeC:∀x c,X.env.cells.lookup x=some c→H c=none
 pin:∀p∈X.pn++pins,s.heap.get? p.1=some p.2∧H p.1=none∧p.1≠X.env.locals∧p.1∉X.fs∧∀v,p.2.data≠.cell v
 hok:HOk X.prog X.w H s.heap
 len:σ.length=X.N.length
section
variable {X:Cx}{pins:List (Addr×Obj)}{σ:List (Option V)}{H H':Hp}{s:Shared}{h':Heap}
theorem Cx.Ok.nofr (ok:X.Ok) {b:Addr}{o:Obj} (e:X.base.get? b=some o):b∉X.fs:=fun hb=>by
 have:=(ok.funs.mem hb).1
 rw[e] at this;cases this
theorem Inv.bs (I:Inv X pins σ H s):∀b o,X.base.get? b=some o→s.heap.get? b=some o∧H b=none:=fun b o e=>
 ⟨I.base.keep b o (I.ok.bs b o e).1 (I.ok.bs b o e).2 (I.ok.nofr e) (I.ok.noex b o e),I.base.free b o (I.ok.bs b o e).1 (I.ok.bs b o e).2 (I.ok.noex b o e)⟩
theorem Inv.bk (I:Inv X pins σ H s):∀b o,X.base.get? b=some o→s.heap.get? b=some o:=fun b o e=>(I.bs b o e).1
theorem Inv.mod (I:Inv X pins σ H s):Mod X.K X.mg X.base:=I.ok.mod
theorem Inv.kIn (I:Inv X pins σ H s):X.K.In s.heap:=I.ok.mod.kin.keeps I.bk
theorem Inv.lt (I:Inv X pins σ H s):X.env.locals < s.heap.objs.size:=let ⟨_,hn,_⟩:=I.loc;hn.lt
theorem Inv.sz (I:Inv X pins σ H s):X.s₀.heap.objs.size≤s.heap.objs.size:=Nat.le_trans I.ok.above (Nat.le_of_lt I.lt)
theorem Inv.nofs (I:Inv X pins σ H s) {a:Addr} (h:s.heap.objs.size≤a):a∉X.fs:=fun hb=>by
 obtain⟨_,o,ho,_⟩:=I.ok.funs.mem hb
 exact absurd (Nat.lt_of_lt_of_le (Heap.lt_size ho) (Nat.le_trans I.sz h)) (Nat.lt_irrefl _)
theorem Inv.cne (I:Inv X pins σ H s):∀x c,X.env.cells.lookup x=some c→c≠X.env.locals:=fun x c e z=>by
 obtain⟨v,o,ho,hd⟩:=I.cell x c e
 obtain⟨m,⟨o',es,ep,ho',hd',_⟩,_⟩:=I.loc
 rw[z,ho'] at ho;cases ho;rw[hd'] at hd;cases hd
theorem Inv.funs (I:Inv X pins σ H s):s.heap.FunFrames X.base X.outer:=by
 have all:∀(l:List Env),(∀ b∈frs l,b∈X.fs)→X.s₀.heap.FunFrames X.base l→s.heap.FunFrames X.base l:=by
  intro l
  induction l with
  |nil=>intro _ _;trivial
  |cons env r ih=>
   intro hs hl
   obtain⟨hk,⟨L,o,hf,hn,ho,hd⟩,hr⟩:=hl
   have hL:L∈X.fs:=hs L (by unfold frs;rw[List.filterMap_cons,hf];exact List.mem_cons_self)
   obtain⟨sl,e⟩:=I.base.slot L o ho (I.ok.frf L hL) hL fun z=>I.ok.exfs L z hL
   exact⟨hk,⟨L,_,hf,hn,e,hd⟩,ih (fun b hb=>hs b (by unfold frs;rw[List.filterMap_cons,hf];exact List.mem_cons_of_mem _ hb)) hr⟩
 exact all X.outer (fun _ hb=>hb) I.ok.funs
theorem Inv.stack (I:Inv X pins σ H s):s.heap.FunFrames X.base X.stack:=by
 rcases I.ok.stk with e|⟨e,hf⟩
 ·rw[e];exact I.funs
 ·rw[e]
  obtain⟨m,hn,_⟩:=I.loc
  refine .cons (by rw[I.ok.kind];decide) hf hn ?_ I.funs
  exact Heap.get?_none_of_le (Nat.le_trans I.ok.bsz I.ok.above)
theorem Inv.stkSub (I:Inv X pins σ H s):∀b∈frs X.stack,b∈X.env.locals::X.fs:=fun b hb=>by
 rcases I.ok.stk with e|⟨e,hf⟩
 ·rw[e] at hb;exact List.mem_cons_of_mem _ hb
 ·rw[e] at hb
  unfold frs at hb
  rw[List.filterMap_cons,hf] at hb
  exact hb
theorem Inv.stkFree (I:Inv X pins σ H s):∀b∈frs X.stack,H b=none:=fun b hb=>by
 rcases List.mem_cons.mp (I.stkSub b hb) with e|hb
 ·rw[e];exact I.free
 ·obtain⟨_,o,ho,_⟩:=I.ok.funs.mem hb
  exact I.base.free b o ho (I.ok.frf b hb) fun z=>I.ok.exfs b z hb
theorem Inv.step {g':Array GenState}{t':Nat}{d':Drawn}{ch:List Addr} (I:Inv X pins σ H s)
  (hch:∀b∈ch,(b∈X.ex∨X.s₀.heap.objs.size≤b)∧b≠X.env.locals∧(∀ x c,X.env.cells.lookup x=some c→c≠b)∧∀p∈X.pn++pins,p.1≠b)
  (keep:∀b o,b≠X.env.locals→b∉X.fs→b∉ch→s.heap.get? b=some o→H b=none→h'.get? b=some o)
  (slot:∀b o,b≠X.env.locals→b∈X.fs→b∉ch→s.heap.get? b=some o→H b=none→∃sl,h'.get? b=some { o with slots:=sl }) (free:∀b o,b∉ch→s.heap.get? b=some o→H b=none→H' b=none)
  (there:∀b o,b∉ch→s.heap.get? b=some o→∃o',h'.get? b=some o')
  (tups:∀b xs,H b=some (.tup xs)→H' b=some (.tup xs)) (frzs:∀b o u,H b=some (.frz o u)→H' b=some (.frz o u)) (tbls:∀b ps,H b=some (.tbl ps)→∃more,H' b=some (.tbl (ps++more)))
  (ns:∀m,s.heap.Ns X.env.locals m→h'.Ns X.env.locals m) (hok:HOk X.prog X.w H' h') (hg:AllBare g') :
  Inv X pins σ H' { s with heap:=h',gens:=g',drawn:=d',toks:=t' }:=by
 have neL:∀b o,X.s₀.heap.get? b=some o→b≠X.env.locals:=fun b o e=>Nat.ne_of_lt (Nat.lt_of_lt_of_le (Heap.lt_size e) I.ok.above)
 have neC:∀b o,X.s₀.heap.get? b=some o→b∉X.ex→b∉ch:=fun b o e hx hb=>by
  rcases (hch b hb).1 with z|z
  ·exact hx z
  ·exact absurd (Nat.lt_of_lt_of_le (Heap.lt_size e) z) (Nat.lt_irrefl _)
 have cellK:∀x c,X.env.cells.lookup x=some c→∀v,s.heap.IsCell c v→h'.IsCell c v:=fun x c e v ⟨o,ho,hd⟩=>by
  have nch:c∉ch:=fun z=>(hch c z).2.2.1 x c e rfl
  by_cases hc:c∈X.fs
  ·obtain⟨sl,q⟩:=slot c o (I.cne x c e) hc nch ho (I.freeC x c e)
   exact⟨_,q,hd⟩
  ·exact⟨o,keep c o (I.cne x c e) hc nch ho (I.freeC x c e),hd⟩
 refine⟨I.ok,I.os,hg,⟨fun b o e n hb hx=>?_,fun b o e n hb hx=>?_,fun b o e n hx=>?_,fun b o e hx=>?_,fun b xs e=>tups b xs (I.base.tups b xs e),fun b o xs e=>frzs b o xs (I.base.frzs b o xs e),fun b ps e=>?_⟩,?_,fun x c e=>?_,?_,fun x c e=>?_,fun p hp=>?_,hok,I.len⟩
 ·exact keep b o (neL b o e) hb (neC b o e hx) (I.base.keep b o e n hb hx) (I.base.free b o e n hx)
 ·obtain⟨sl,e1⟩:=I.base.slot b o e n hb hx
  obtain⟨sl',e2⟩:=slot b _ (neL b o e) hb (neC b o e hx) e1 (I.base.free b o e n hx)
  exact⟨sl',e2⟩
 ·obtain⟨o',e1⟩:=I.base.there b o e hx
  exact free b o' (neC b o e hx) e1 (I.base.free b o e n hx)
 ·obtain⟨o',e1⟩:=I.base.there b o e hx
  exact there b o' (neC b o e hx) e1
 ·obtain⟨m1,e1⟩:=I.base.tbls b ps e
  obtain⟨m2,e2⟩:=tbls b _ e1
  exact⟨m1++m2,by rw[e2,Array.append_assoc]⟩
 ·obtain⟨m,hn,hl⟩:=I.loc
  refine⟨m,ns m hn,fun i x v e1 e2 e3=>?_⟩
  obtain⟨u,r,l⟩:=hl i x v e1 e2 e3
  refine⟨u,r,?_⟩
  rcases l with l|⟨k,c,e,z⟩
  ·exact .inl l
  ·exact .inr ⟨k,c,e,cellK x c e _ z⟩
 ·obtain⟨v,z⟩:=I.cell x c e
  exact⟨v,cellK x c e v z⟩
 ·obtain⟨m,⟨o,_,_,ho,_⟩,_⟩:=I.loc
  exact free _ o (fun z=>(hch _ z).2.1 rfl) ho I.free
 ·obtain⟨v,o,ho,hd⟩:=I.cell x c e
  exact free c o (fun z=>(hch c z).2.2.1 x c e rfl) ho (I.freeC x c e)
 ·obtain⟨e,n,ne,nf,d⟩:=I.pin p hp
  have nch:p.1∉ch:=fun z=>(hch p.1 z).2.2.2 p hp rfl
  exact⟨keep p.1 p.2 ne nf nch e n,free p.1 p.2 nch e n,ne,nf,d⟩
theorem Inv.un {t':Nat} (I:Inv X pins σ H s) (u:Un X.fs [] H H' s.heap h') (hok:HOk X.prog X.w H' h'):Inv X pins σ H' { s with heap:=h',toks:=t' }:=by
 obtain⟨m,⟨o,es,ep,ho,r⟩,_⟩:=id I.loc
 obtain⟨sl,hL⟩:=u.any ho I.free (by simp)
 exact I.step (g':=s.gens) (d':=s.drawn) (ch:=[]) (fun _ z=>nomatch z) (fun b o _ hb _ e n=>u.keep b o e n hb (by simp)) (fun b o _ hb _ e n=>u.slot b o e n hb (by simp)) (fun b o _ e n=>u.free b o e n (by simp)) (fun b o _ e=>u.there b o e (by simp)) u.tups u.frzs u.tbls (fun m' hm=>by
  obtain⟨o',es',ep',ho',r'⟩:=hm
  rw[ho] at ho';cases ho'
  exact⟨_,es',ep',hL,r'⟩) hok I.bare
theorem Inv.call {g':Array GenState}{t':Nat}{d':Drawn}{ch:List Addr} (I:Inv X pins σ H s) (u:Un (frs X.stack) ch H H' s.heap h') (hok:HOk X.prog X.w H' h') (hg:AllBare g')
  (hch:∀b∈ch,(b∈X.ex∨X.s₀.heap.objs.size≤b)∧b≠X.env.locals∧(∀ x c,X.env.cells.lookup x=some c→c≠b)∧∀p∈X.pn++pins,p.1≠b) :
  Inv X pins σ H' { s with heap:=h',gens:=g',drawn:=d',toks:=t' }:=by
 obtain⟨m,⟨o,es,ep,ho,r⟩,_⟩:=id I.loc
 obtain⟨sl,hL⟩:=u.any ho I.free fun z=>(hch _ z).2.1 rfl
 exact I.step (ch:=ch) hch (fun b o hL hb hc e n=>u.keep b o e n (fun z=>(List.mem_cons.mp (I.stkSub b z)).elim hL hb) hc) (fun b o _ _ hc e n=>u.any e n hc) (fun b o hc e n=>u.free b o e n hc) (fun b o hc e=>u.there b o e hc) u.tups u.frzs u.tbls (fun m' hm=>by
  obtain⟨o',es',ep',ho',r'⟩:=hm
  rw[ho] at ho';cases ho'
  exact⟨_,es',ep',hL,r'⟩) hok hg
theorem Inv.turned {t':Nat}{it:Addr} (I:Inv X pins σ H s) (k:∀b o,b≠it→s.heap.get? b=some o→h'.get? b=some o) (hn:H it=none) (hL:it≠X.env.locals)
  (h1:it∈X.ex∨X.s₀.heap.objs.size≤it) (h2:∀x c,X.env.cells.lookup x=some c→c≠it) (h3:∀p∈X.pn++pins,p.1≠it):Inv X pins σ H { s with heap:=h',toks:=t' }:=by
 have nit:∀b u,H b=some u→b≠it:=fun b u e z=>by rw[z,hn] at e;cases e
 refine I.step (g':=s.gens) (d':=s.drawn) (ch:=[it]) (fun b hb=>?_) (fun b o _ _ hc e _=>k b o (fun z=>hc (by simp[z])) e) (fun b o _ _ hc e _=>⟨o.slots,k b o (fun z=>hc (by simp[z])) e⟩) (fun _ _ _ _ n=>n)
  (fun b o hc e=>⟨o,k b o (fun z=>hc (by simp[z])) e⟩) (fun _ _ e=>e) (fun _ _ _ e=>e) (fun b ps e=>⟨#[],by rw[e];simp⟩) (fun m hm=>?_) (fun b u e=>?_) I.bare
 ·have e:b=it:=by simpa using hb
  subst e
  exact⟨h1,hL,h2,h3⟩
 ·obtain⟨o,es,ep,ho,r⟩:=hm
  exact⟨o,es,ep,k _ o (Ne.symm hL) ho,r⟩
 ·refine(I.hok b u e).stay (fun c v hc q=>k c v ?_ q) (fun _ q=>q) fun _ _ q=>q
  rcases hc with z|z
  ·rw[z];exact nit b u e
  ·exact nit c _ z
theorem Inv.tok (I:Inv X pins σ H s) (t:Nat):Inv X pins σ H { s with toks:=t }:=I.un (h':=s.heap) (t':=t) Un.refl I.hok
theorem Inv.kept {t':Nat} (I:Inv X pins σ H s) (k:∀b u,s.heap.get? b=some u→h'.get? b=some u):Inv X pins σ H { s with heap:=h',toks:=t' }:=I.un (Un.kept k) (I.hok.kept k)
theorem Inv.laid {a:Addr}{o:HO}{t':Nat} (I:Inv X pins σ H s) (k:∀b u,s.heap.get? b=some u→h'.get? b=some u) (hp:s.heap.objs.size≤a) (new:ObjOk X.prog X.w (upd H a o) h' a o) :
  Inv X pins σ (upd H a o) { s with heap:=h',toks:=t' }:=I.un (Un.laid k hp (I.hok.fresh hp)) (I.hok.laid k hp new)
theorem Inv.write {x e:Addr}{o:HO}{t':Nat} (I:Inv X pins σ H s) (mu:Mut (H x)) (he:e=x∨H e=some (.own x)) (k:∀b u,b≠e→s.heap.get? b=some u→h'.get? b=some u) (heo:∃u,h'.get? e=some u)
  (new:ObjOk X.prog X.w (upd H x o) h' x o):Inv X pins σ (upd H x o) { s with heap:=h',toks:=t' }:=I.un (Un.write mu he k heo) (I.hok.write mu he k heo new)
theorem Inv.pins_of {pins':List (Addr×Obj)} (I:Inv X pins σ H s) (h:∀p∈pins',s.heap.get? p.1=some p.2∧H p.1=none∧p.1≠X.env.locals∧p.1∉X.fs∧∀v,p.2.data≠.cell v):Inv X pins' σ H s:=
 ⟨I.ok,I.os,I.bare,I.base,I.loc,I.cell,I.free,I.freeC,fun p hp=>(List.mem_append.mp hp).elim (fun z=>I.pin p (List.mem_append_left _ z)) (h p),I.hok,I.len⟩
theorem ϡ5 {N:List Str} (hN:N.Nodup) {i j:Nat}{x:Str} (a:N[i]?=some x) (b:N[j]?=some x):i=j:=by
 obtain⟨h1,e1⟩:=List.getElem?_eq_some_iff.mp a
 obtain⟨h2,e2⟩:=List.getElem?_eq_some_iff.mp b
 exact(List.getElem_inj hN).mp (e1.trans e2.symm)
theorem ϲE {M:Model}{A:Around}{E:Value→Shared→Prop}{i:Nat}{x:Str}{v:V}{u:Value}{Q:Unit→Shared→Prop} (I:Inv X pins σ H s) (hN:X.N.Nodup) (hi:X.N[i]?=some x) (hx:Loc X.env.scope x) (r:RelV v u)
  (h:∀s',Inv X pins (σ.set i (some v)) H s'→(∃ a,Heap.SameBut a s.heap s'.heap∧(a=X.env.locals∨X.env.cells.lookup x=some a))→Q () s') (hf:X.fn x=true∨X.env.scope.names.lookup x=some .local:=by first|exact .inl rfl|exact .inr rfl|assumption):wpAny M A (storeName X.env x u) Q E s:=by
 obtain⟨m,hn,hl⟩:=id I.loc
 have hcls:(X.env.scope.kind == .class || (X.env.scope.kind == .module && X.env.locals != X.env.globals))=false:=by rw[I.ok.kind];rfl
 have hiσ:i < σ.length:=by rw[I.len];exact(List.getElem?_eq_some_iff.mp hi).1
 have cne:=I.cne
 have tracked:∀{a:Addr}{h':Heap},(∃ o,s.heap.get? a=some o∧H a=none)→Heap.SameBut a s.heap h'→HOk X.prog X.w H h':=fun {a h'} ha hs b ob e=>by
  obtain⟨_,_,hfree⟩:=ha
  refine(I.hok b ob e).stay (fun c w' hc q=>(hs.2 c ?_).trans q) (fun _ q=>q) fun _ _ q=>q
  rintro rfl
  rcases hc with rfl|hc
  ·rw[hfree] at e;cases e
  ·rw[hfree] at hc;cases hc
 rcases hx with hk|hk
 ·refine wpAny_storeName_local hk hn (fun h' hn' hs=>?_) hcls
  obtain⟨oL,_,_,hoL,_⟩:=id hn
  refine h _ ⟨I.ok,I.os,I.bare,⟨fun b o e n hb hx=>?_,fun b o e n hb hx=>?_,I.base.free,fun b o e hx=>?_,I.base.tups,I.base.frzs,I.base.tbls⟩,⟨_,hn',fun j y v' e1 e2 e3=>?_⟩,fun y c e=>?_,I.free,I.freeC,fun p hp=>?_,tracked ⟨oL,hoL,I.free⟩ hs,by simpa using I.len⟩ ⟨_,hs,.inl rfl⟩
  ·exact(hs.2 b (Nat.ne_of_lt (Nat.lt_of_lt_of_le (Heap.lt_size e) I.ok.above))).trans (I.base.keep b o e n hb hx)
  ·obtain⟨sl,e1⟩:=I.base.slot b o e n hb hx
   exact⟨sl,(hs.2 b (Nat.ne_of_lt (Nat.lt_of_lt_of_le (Heap.lt_size e) I.ok.above))).trans e1⟩
  ·obtain⟨o',e1⟩:=I.base.there b o e hx
   exact⟨o',(hs.2 b (Nat.ne_of_lt (Nat.lt_of_lt_of_le (Heap.lt_size e) I.ok.above))).trans e1⟩
  ·by_cases hj:j=i
   ·subst hj
    rw[hi] at e1;cases e1
    rw[List.getElem?_set_self hiσ] at e2
    cases e2
    exact⟨u,r,.inl ⟨hk,by simp⟩⟩
   ·rw[List.getElem?_set_ne (Ne.symm hj)] at e2
    obtain⟨u',r',q⟩:=hl j y v' e1 e2 e3
    refine⟨u',r',?_⟩
    rcases q with⟨k,e⟩|⟨k,c,e,z⟩
    ·refine .inl ⟨k,?_⟩
     have:y≠x:=fun e=>hj (ϡ5 hN e1 (e▸hi))
     simp[this,e]
    ·exact .inr ⟨k,c,e,z.sameBut hs (cne y c e)⟩
  ·obtain⟨w',z⟩:=I.cell y c e
   exact⟨w',z.sameBut hs (cne y c e)⟩
  ·obtain⟨e,n,ne,nf,d⟩:=I.pin p hp
   exact⟨(hs.2 p.1 ne).trans e,n,ne,nf,d⟩
 ·have hfn:X.fn x=true:=by
   rcases hf with z|z
   ·exact z
   ·rw[z] at hk;cases hk
  obtain⟨c,hc⟩:=I.ok.has x (.inl hk)
  obtain⟨w',z⟩:=I.cell x c hc
  refine wpAny_storeName_cell I.ok.kind hk hc z (fun h' hc' hs=>?_)
  obtain⟨oc,hoc,hocd⟩:=id z
  refine h { s with heap:=h' } ⟨I.ok,I.os,I.bare,⟨fun b o e n hb hx=>?_,fun b o e n hb hx=>?_,I.base.free,fun b o e hx=>?_,I.base.tups,I.base.frzs,I.base.tbls⟩,⟨m,hn.sameBut hs (Ne.symm (cne x c hc)),fun j y v' e1 e2 e3=>?_⟩,fun y c' e=>?_,I.free,I.freeC,fun p hp=>?_,tracked ⟨oc,hoc,I.freeC x c hc⟩ hs,by simpa using I.len⟩ ⟨c,hs,.inr hc⟩
  ·exact(hs.2 b (Nat.ne_of_lt (Nat.lt_of_lt_of_le (Heap.lt_size e) (I.ok.cab x c hfn hc)))).trans (I.base.keep b o e n hb hx)
  ·obtain⟨sl,e1⟩:=I.base.slot b o e n hb hx
   exact⟨sl,(hs.2 b (Nat.ne_of_lt (Nat.lt_of_lt_of_le (Heap.lt_size e) (I.ok.cab x c hfn hc)))).trans e1⟩
  ·obtain⟨o',e1⟩:=I.base.there b o e hx
   exact⟨o',(hs.2 b (Nat.ne_of_lt (Nat.lt_of_lt_of_le (Heap.lt_size e) (I.ok.cab x c hfn hc)))).trans e1⟩
  ·by_cases hj:j=i
   ·subst hj
    rw[hi] at e1;cases e1
    rw[List.getElem?_set_self hiσ] at e2
    cases e2
    exact⟨u,r,.inr ⟨.inl hk,c,hc,hc'⟩⟩
   ·rw[List.getElem?_set_ne (Ne.symm hj)] at e2
    obtain⟨u',r',q⟩:=hl j y v' e1 e2 e3
    refine⟨u',r',?_⟩
    rcases q with q|⟨k,c',e,z'⟩
    ·exact .inl q
    ·refine .inr ⟨k,c',e,z'.sameBut hs ?_⟩
     rintro rfl
     exact hj (ϡ5 hN e1 (I.ok.inj _ _ _ e hc▸hi))
  ·by_cases hcc:c'=c
   ·subst hcc;exact⟨_,hc'⟩
   ·obtain⟨w2,z2⟩:=I.cell y c' e
    exact⟨w2,z2.sameBut hs hcc⟩
  ·obtain⟨e,n,ne,nf,d⟩:=I.pin p hp
   refine⟨(hs.2 p.1 ?_).trans e,n,ne,nf,d⟩
   intro q
   rw[q,hoc] at e
   have q':oc=p.2:=Option.some.inj e
   exact d w' (by rw[← q'];exact hocd)
theorem ϡO {M:Model}{A:Around}{E:Value→Shared→Prop}{i:Nat}{x:Str}{v:V}{u:Value}{Q:Unit→Shared→Prop} (I:Inv X pins σ H s) (hN:X.N.Nodup) (hi:X.N[i]?=some x) (hx:Loc X.env.scope x) (r:RelV v u)
  (h:∀s',Inv X pins (σ.set i (some v)) H s'→Q () s') (hf:X.fn x=true∨X.env.scope.names.lookup x=some .local:=by first|exact .inl rfl|exact .inr rfl|assumption):wpAny M A (storeName X.env x u) Q E s:=
 ϲE I hN hi hx r (fun s' I' _=>h s' I') hf
theorem Inv.call' {s':Shared}{ch:List Addr} (I:Inv X pins σ H s) (ho:s'.os=s.os) (u:Un (frs X.stack) ch H H' s.heap s'.heap) (hok:HOk X.prog X.w H' s'.heap) (hg:AllBare s'.gens)
  (hch:∀b∈ch,(b∈X.ex∨X.s₀.heap.objs.size≤b)∧b≠X.env.locals∧(∀ x c,X.env.cells.lookup x=some c→c≠b)∧∀p∈X.pn++pins,p.1≠b):Inv X pins σ H' s':=by
 obtain⟨h',g',d',t',o'⟩:=s'
 have e:o'=s.os:=ho
 subst e
 exact I.call (g':=g') (t':=t') (d':=d') u hok hg hch
end
abbrev XK:=Value→Option Addr→Hp→Prop
abbrev St:=List (Option V)
abbrev VK:=V→Hp→Prop
abbrev TE:=St→Hp→VK→Prop
abbrev TT:=St→Hp→(Bool→Hp→Prop)→Prop
abbrev TA:=St→Hp→(List V→Hp→Prop)→Prop
structure Ends where
 nx:St→Hp→Prop
 rt:VK
 bk:St→Hp→Prop:=fun _ _=>False
 ct:St→Hp→Prop:=fun _ _=>False
abbrev TS:=Ends→St→Hp→Prop
def EP (X:Cx) (pins:List (Addr×Obj)) (σ:St) (Q:VK) (u:Value) (s':Shared):Prop:=∃v H',Inv X pins σ H' s'∧RelV v u∧Q v H'
def TP (X:Cx) (pins:List (Addr×Obj)) (σ:St) (Q:Bool→Hp→Prop) (b:Bool) (s':Shared):Prop:=∃H',Inv X pins σ H' s'∧Q b H'
def AP (X:Cx) (pins:List (Addr×Obj)) (σ:St) (Q:List V→Hp→Prop) (us:List Value) (s':Shared):Prop:=∃vs H',Inv X pins σ H' s'∧Vals vs us∧Q vs H'
def SP (X:Cx) (pins:List (Addr×Obj)) (D:Ends) (f:Flow) (s':Shared):Prop:=
 match f with
 |.next=>∃σ' H',Inv X pins σ' H' s'∧D.nx σ' H'
 |.brk=>∃σ' H',Inv X pins σ' H' s'∧D.bk σ' H'
 |.cont=>∃σ' H',Inv X pins σ' H' s'∧D.ct σ' H'
 |.ret u=>∃v σ' H',Inv X pins σ' H' s'∧RelV v u∧D.rt v H'
def PE (X:Cx) (e:Expr) (t:TE):Prop:=
 ∀(pins:List (Addr×Obj)) (s:Shared) (σ:St) (H:Hp) (Q:VK),Inv X pins σ H s→t σ H Q→wpAny (model X.prog X.w) X.A (eval e X.env) (EP X pins σ Q) X.xe s
def PT (X:Cx) (e:Expr) (t:TT):Prop:=
 ∀(pins:List (Addr×Obj)) (s:Shared) (σ:St) (H:Hp) (Q:Bool→Hp→Prop),Inv X pins σ H s→t σ H Q→wpAny (model X.prog X.w) X.A (isTrue e X.env (eval e X.env)) (TP X pins σ Q) X.xe s
def PW (X:Cx) (e:Expr) (t:TT):Prop:=
 ∀(whole:Sem Value) (pins:List (Addr×Obj)) (s:Shared) (σ:St) (H:Hp) (Q:Bool→Hp→Prop),Inv X pins σ H s→t σ H Q→wpAny (model X.prog X.w) X.A (isTrue e X.env whole) (TP X pins σ Q) X.xe s
theorem PW.pt {X:Cx}{e:Expr}{t:TT} (h:PW X e t):PT X e t:=h _
def PA (X:Cx) (es:List Expr) (t:TA):Prop:=
 ∀(pos:Pos) (pins:List (Addr×Obj)) (s:Shared) (σ:St) (H:Hp) (Q:List V→Hp→Prop),Inv X pins σ H s→t σ H Q→wpAny (model X.prog X.w) X.A (spliced (backTo pos (starEach es X.env))) (AP X pins σ Q) X.xe s
def PS (X:Cx) (st:Stmt) (t:TS):Prop:=
 ∀(pins:List (Addr×Obj)) (s:Shared) (σ:St) (H:Hp) (D:Ends),Inv X pins σ H s→t D σ H→wpAny (model X.prog X.w) X.A (exec st X.env) (SP X pins D) X.xe s
def PSs (X:Cx) (st:List Stmt) (t:TS):Prop:=
 ∀(pins:List (Addr×Obj)) (s:Shared) (σ:St) (H:Hp) (D:Ends),Inv X pins σ H s→t D σ H→wpAny (model X.prog X.w) X.A (execs st X.env) (SP X pins D) X.xe s
theorem thn {α:Type}{t:Sem α}{Q Q':α→Shared→Prop}{M:Model}{A:Around}{E:Value→Shared→Prop}{s:Shared} (h:wpAny M A t Q E s) (hQ:∀a s,Q a s→Q' a s):wpAny M A t Q' E s:=wpAny_mono h hQ fun _ _ x=>x
end L2
namespace L2
open PySem PySem.Spec PyProof.Rows
section
variable {X:Cx}
def tVar (i:Nat):TE:=fun σ H Q=>∃v,σ[i]?=some (some v)∧Q v H
def tC (v:V):TE:=fun _ H Q=>Q v H
theorem pe_var {i:Nat}{x:Str}{pos:Pos} (hN:X.N[i]?=some x) (hv:Vis X.env.scope x) (hd:(x == ("__debug__":Str))=false:=by decide) (hcd:(x == ("__classdict__":Str))=false:=by decide):PE X (.Name x pos) (tVar i):=by
 intro pins s σ H Q I h
 obtain⟨v,e,h⟩:=h
 obtain⟨m,hn,hl⟩:=I.loc
 obtain⟨u,r,l⟩:=hl i x v hN e hv
 have fin:EP X pins σ Q u s:=⟨v,H,I,r,h⟩
 rcases l with⟨hk,hm⟩|⟨hk,c,hc,hcell⟩
 ·exact wpAny_Name (wpAny_loadName_local I.ok.kind hk hn hm fin) hd
 ·rcases hk with hk|hk
  ·exact wpAny_Name (wpAny_loadName_cell I.ok.kind hk hc hcell fin) hd
  ·exact wpAny_Name (wpAny_loadName_free I.ok.kind hk hc hcell fin hcd) hd
theorem ϖh {i j pos}:PE X (.Constant (.int i) j pos) (tC (.int i)):=fun _ _ _ H _ I h=>wpAny_Constant_int ⟨.int i,H,I.tok _,⟨_,rfl⟩,h⟩
theorem ϱg {b j pos}:PE X (.Constant (.bool b) j pos) (tC (.bl b)):=fun _ _ _ H _ I h=>Constant_bool ⟨.bl b,H,I,rfl,h⟩
theorem ϰQ {j pos}:PE X (.Constant .none j pos) (tC .non):=fun _ _ _ H _ I h=>Constant_none ⟨.non,H,I,rfl,h⟩
theorem ϑ3 {x j pos}:PE X (.Constant (.str x) j pos) (tC (.str x)):=fun _ _ _ H _ I h=>Calls.Constant_str ⟨.str x,H,I.tok _,⟨_,rfl⟩,h⟩
def Gl (X:Cx) (x:Str):Prop:=X.env.kindOf x=some .globalImplicit
theorem ϵY {E:Value→Shared→Prop}{pins:List (Addr×Obj)}{s:Shared}{σ:St}{H:Hp}{x:Str}{u:Value}{pos:Pos}{Q:Value→Shared→Prop} (I:Inv X pins σ H s) (hg:Gl X x) (hm:X.mg x=some u) (h:Q u s)
  (hd:(x == ("__debug__":Str))=false:=by decide):wpAny (model X.prog X.w) X.A (eval (.Name x pos) X.env) Q E s:=
 Calls.Name_function_global I.ok.kind hg (Calls.loadGlobal_global (by rw[I.ok.glob];exact I.mod.glob.keeps I.bk) hm h) hd
theorem ϱY {E:Value→Shared→Prop}{pins:List (Addr×Obj)}{s:Shared}{σ:St}{H:Hp}{x:Str}{u:Value}{pos:Pos}{Q:Value→Shared→Prop} (I:Inv X pins σ H s) (hg:Gl X x) (hm:X.mg x=none) (hv:bootBuiltins x=some u) (h:Q u s)
  (hn:x≠"__name__":=by decide) (hd:(x == ("__debug__":Str))=false:=by decide):wpAny (model X.prog X.w) X.A (eval (.Name x pos) X.env) Q E s:=by
 obtain⟨mb,h1,h2⟩:=I.mod.blt
 exact Calls.Name_function_global I.ok.kind hg (Calls.loadGlobal_builtin (by rw[I.ok.glob];exact I.mod.glob.keeps I.bk) hm (by rw[I.ok.blt];exact h1.keeps I.bk) ((h2 x hn).trans hv) h) hd
theorem pe_glob {x:Str}{v:V}{u:Value}{pos:Pos} (hg:Gl X x) (hm:X.mg x=some u) (r:RelV v u) (hd:(x == ("__debug__":Str))=false:=by decide):PE X (.Name x pos) (tC v):=
 fun _ _ _ H _ I h=>ϵY I hg hm ⟨v,H,I,r,h⟩ hd
theorem pe_bltn {x:Str}{v:V}{u:Value}{pos:Pos} (hg:Gl X x) (hm:X.mg x=none) (hv:bootBuiltins x=some u) (r:RelV v u) (hn:x≠"__name__":=by decide) (hd:(x == ("__debug__":Str))=false:=by decide):PE X (.Name x pos) (tC v):=
 fun _ _ _ H _ I h=>ϱY I hg hm hv ⟨v,H,I,r,h⟩ hn hd
variable {a b:Expr}{ta tb:TE}{pos:Pos}
def PC (X:Cx) (op:CmpOp) (a b:Expr) (t:TE):Prop:=
 ∀(pins:List (Addr×Obj)) (s:Shared) (σ:St) (H:Hp) (Q:VK),Inv X pins σ H s→t σ H Q →
  wpAny (model X.prog X.w) X.A (eval a X.env) (fun v s₁=>wpAny (model X.prog X.w) X.A (eval b X.env) (fun u s₂=>wpAny (model X.prog X.w) X.A (compareOp op v u) (EP X pins σ Q) X.xe s₂) X.xe s₁) X.xe s
def tB (t:TE):TT:=fun σ H Q=>t σ H fun x H1=>∃c,x=.bl c∧Q c H1
theorem ϰm {op:CmpOp}{t:TE} (h:PC X op a b t) (h1:behindInMarks op b=false:=by first|exact nobehind _ (by decide) (by decide)|rfl):PT X (.Compare a [op] [b] pos) (tB t):=by
 intro pins s σ H Q I hw
 refine wpAny_isTrue_Compare1 (thn (h pins s σ H _ I hw) fun v s1 h1=>thn h1 fun u s2 h2=>thn h2 fun c s3 ⟨x,H1,I1,r1,q1⟩=>?_) h1
 obtain⟨d,rfl,q⟩:=q1
 cases r1
 exact wpAny_truthy_bool ⟨H1,I1,q⟩
theorem ϕ4 {e:Expr}{t:TE} (h:PE X e t) (he:∀whole,isTrue e X.env whole=(do let v ← whole;standAt e.pos;holding [v] (truthy v)):=by intro _;rfl):PT X e (tB t):=by
 intro pins s σ H Q I hw
 refine isTrue_plain (thn (h pins s σ H _ I hw) fun v s1 ⟨x,H1,I1,r1,q1⟩=>?_) (he _)
 obtain⟨d,rfl,q⟩:=q1
 cases r1
 exact wpAny_truthy_bool ⟨H1,I1,q⟩
variable {tA tB':TT}{rest:List Expr}
def tAnd (t u:TT):TT:=fun σ H Q=>t σ H fun c H1=>if c=true then u σ H1 Q else Q false H1
def tOr (t u:TT):TT:=fun σ H Q=>t σ H fun c H1=>if c=true then Q true H1 else u σ H1 Q
def tNot (t:TT):TT:=fun σ H Q=>t σ H fun c H1=>Q (!c) H1
theorem ϰp (ha:PT X a tA):PW X (.BoolOp .And [a] pos) tA:=by
 intro wh pins s σ H Q I h
 refine isTrue_and (thn (ha pins s σ H Q I h) fun c s1 e=>?_)
 cases c with
 |true=>exact isTrue_and_nil e
 |false=>exact e
theorem ϰv (ha:PT X a tA):PW X (.BoolOp .Or [a] pos) tA:=by
 intro wh pins s σ H Q I h
 refine isTrue_or (thn (ha pins s σ H Q I h) fun c s1 e=>?_)
 cases c with
 |false=>exact isTrue_or_nil e
 |true=>exact e
theorem ϱ6 (ha:PT X a tA) (hb:PW X (.BoolOp .And (b::rest) pos) tB'):PW X (.BoolOp .And (a::b::rest) pos) (tAnd tA tB'):=by
 intro wh pins s σ H Q I h
 refine isTrue_and (thn (ha pins s σ H _ I h) fun c s1 ⟨H1,I1,q1⟩=>?_)
 cases c with
 |true=>exact hb wh pins s1 σ H1 Q I1 q1
 |false=>exact⟨H1,I1,q1⟩
theorem ϱp (ha:PT X a tA) (hb:PW X (.BoolOp .Or (b::rest) pos) tB'):PW X (.BoolOp .Or (a::b::rest) pos) (tOr tA tB'):=by
 intro wh pins s σ H Q I h
 refine isTrue_or (thn (ha pins s σ H _ I h) fun c s1 ⟨H1,I1,q1⟩=>?_)
 cases c with
 |true=>exact⟨H1,I1,q1⟩
 |false=>exact hb wh pins s1 σ H1 Q I1 q1
theorem ϕ1 (ha:PT X a tA):PT X (.UnaryOp .Not a pos) (tNot tA):=by
 intro pins s σ H Q I h
 exact isTrue_not (ha pins s σ H (fun c H1=>Q (!c) H1) I h)
def tAndV (ta tb:TE):TE:=fun σ H Q=>ta σ H fun x H1=>∃c,x=.bl c∧if c=true then tb σ H1 Q else Q (.bl false) H1
def tOrV (ta tb:TE):TE:=fun σ H Q=>ta σ H fun x H1=>∃c,x=.bl c∧if c=true then Q (.bl true) H1 else tb σ H1 Q
def tNotV (ta:TE):TE:=fun σ H Q=>ta σ H fun x H1=>∃c,x=.bl c∧Q (.bl (!c)) H1
theorem ϝe {op}{t:TE} (h:PE X a t):PE X (.BoolOp op [a] pos) t:=fun pins s σ H Q I hw=>BoolOp_one (h pins s σ H Q I hw)
theorem ϝn (ha:PE X a ta) (hb:PE X (.BoolOp .And (b::rest) pos) tb):PE X (.BoolOp .And (a::b::rest) pos) (tAndV ta tb):=by
 intro pins s σ H Q I h
 refine BoolOp_and (thn (ha pins s σ H _ I h) fun v s1 ⟨x,H1,I1,r1,q1⟩=>?_)
 obtain⟨c,rfl,q1⟩:=q1
 cases r1
 refine wpAny_truthy_bool ?_
 cases c with
 |true=>exact hb pins s1 σ H1 Q I1 q1
 |false=>exact⟨.bl false,H1,I1,rfl,q1⟩
theorem pe_or (ha:PE X a ta) (hb:PE X (.BoolOp .Or (b::rest) pos) tb):PE X (.BoolOp .Or (a::b::rest) pos) (tOrV ta tb):=by
 intro pins s σ H Q I h
 refine BoolOp_or (thn (ha pins s σ H _ I h) fun v s1 ⟨x,H1,I1,r1,q1⟩=>?_)
 obtain⟨c,rfl,q1⟩:=q1
 cases r1
 refine wpAny_truthy_bool ?_
 cases c with
 |false=>exact hb pins s1 σ H1 Q I1 q1
 |true=>exact⟨.bl true,H1,I1,rfl,q1⟩
theorem pe_not (ha:PE X a ta):PE X (.UnaryOp .Not a pos) (tNotV ta):=by
 intro pins s σ H Q I h
 refine UnaryOp_ (thn (ha pins s σ H _ I h) fun v s1 ⟨x,H1,I1,r1,q1⟩=>?_)
 obtain⟨c,rfl,q1⟩:=q1
 cases r1
 exact not_of (wpAny_truthy_bool ⟨.bl (!c),H1,I1,rfl,q1⟩)
end
end L2
namespace L2
open PySem PySem.Spec PyProof.Rows
def SqL (K:PySem.W.Frag) (H:Hp) (a:Addr) (xs:List V):Prop:=
 Rd H a (.lst xs) ∨
  ∃(o:Obj) (its:Array Value) (n:Nat),K.lookup a=some o∧o.cls=.type "list"∧o.dict=none∧o.data=.seq its n∧its.size≤sizeLine∧Vals xs its.toList
def SqT (K:PySem.W.Frag) (H:Hp) (a:Addr) (xs:List V):Prop:=
 Rd H a (.tup xs) ∨
  ∃(o:Obj) (its:Array Value) (n:Nat),K.lookup a=some o∧o.cls=.type "tuple"∧o.data=.seq its n∧its.size≤sizeLine∧Vals xs its.toList
def absV:Value→Option V
 |.none=>some .non
 |.bool b=>some (.bl b)
 |.int i _=>some (.int i)
 |.str x _=>some (.str x)
 |.bytes b _=>some (.byt b)
 |.float b _=>some (.flt b)
 |.ref a=>some (.ref a)
 |.type n=>some (.ty n)
 |_=>none
theorem RelV.abs {x:V}{u:Value} (r:RelV x u):absV u=some x:=by
 cases x with
 |non=>cases r;rfl
 |bl _=>cases r;rfl
 |int _=>obtain⟨t,rfl⟩:=r;rfl
 |str _=>obtain⟨t,rfl⟩:=r;rfl
 |byt _=>obtain⟨t,rfl⟩:=r;rfl
 |flt _=>obtain⟨t,rfl⟩:=r;rfl
 |ref _=>cases r;rfl
 |ty _=>cases r;rfl
theorem RelV.inj {x y:V}{u:Value} (r:RelV x u) (q:RelV y u):x=y:=Option.some.inj (r.abs.symm.trans q.abs)
theorem Vals.inj:∀{xs ys:List V}{us:List Value},Vals xs us→Vals ys us→xs=ys
 |_,_,_,.nil,.nil=>rfl
 |_,_,_,.cons r t,.cons r' t'=>by rw[r.inj r',Vals.inj t t']
section
variable {X:Cx}{pins:List (Addr×Obj)}{σ:St}{H:Hp}{s:Shared}{a:Addr}{xs ys:List V}
theorem SqL.of {K:PySem.W.Frag} (h:H a=some (.lst xs)):SqL K H a xs:=.inl (.inl h)
theorem SqT.of {K:PySem.W.Frag} (h:H a=some (.tup xs)):SqT K H a xs:=.inl (.inl h)
theorem Inv.list (I:Inv X pins σ H s) (h:SqL X.K H a xs):∃its:List Value,Vals xs its∧PlainL s.heap a its.toArray∧xs.length≤sizeLine:=by
 rcases h with h|⟨o,its,n,hk,hc,hd,hs,hz,r⟩
 ·obtain⟨z,its,n,r,e⟩:=h.ok I.hok
  exact⟨its,r,⟨_,n,e,rfl,rfl,rfl⟩,z⟩
 ·refine⟨its.toList,r,⟨o,n,I.kIn a o hk,hc,hd,by simpa using hs⟩,?_⟩
  have e:=r.length
  simp only[Array.length_toList] at e
  omega
theorem Inv.tuple (I:Inv X pins σ H s) (h:SqT X.K H a xs):∃its:List Value,Vals xs its∧IsTup s.heap a its.toArray∧xs.length≤sizeLine:=by
 rcases h with h|⟨o,its,n,hk,hc,hs,hz,r⟩
 ·obtain⟨z,its,r,p⟩:=h.ok I.hok
  exact⟨its,r,p,z⟩
 ·refine⟨its.toList,r,⟨o,I.kIn a o hk,hc,n,by simpa using hs⟩,?_⟩
  have e:=r.length
  simp only[Array.length_toList] at e
  omega
theorem Inv.list_inj (I:Inv X pins σ H s) (h:SqL X.K H a xs) (h':SqL X.K H a ys):xs=ys:=by
 obtain⟨its,r,⟨o,n,e,_,_,d⟩,_⟩:=I.list h
 obtain⟨its',r',⟨o',n',e',_,_,d'⟩,_⟩:=I.list h'
 rw[e] at e';cases e'
 rw[d] at d'
 injection d' with d1 _
 have:its=its':=by simpa using congrArg Array.toList d1
 subst this
 exact r.inj r'
theorem Inv.tuple_inj (I:Inv X pins σ H s) (h:SqT X.K H a xs) (h':SqT X.K H a ys):xs=ys:=by
 obtain⟨its,r,⟨o,e,_,n,d⟩,_⟩:=I.tuple h
 obtain⟨its',r',⟨o',e',_,n',d'⟩,_⟩:=I.tuple h'
 rw[e] at e';cases e'
 rw[d] at d'
 injection d' with d1 _
 have:its=its':=by simpa using congrArg Array.toList d1
 subst this
 exact r.inj r'
end
abbrev Cx.wish (X:Cx) (E:Value→Shared→Prop):Cx:={ X with xe:=E }
abbrev Cx.nox (X:Cx):Cx:=X.wish fun _ _=>False
theorem Cx.Ok.wish {X:Cx} (ok:X.Ok) (E:Value→Shared→Prop):(X.wish E).Ok:=
 ⟨ok.mod,ok.kind,ok.glob,ok.blt,ok.above,ok.inj,ok.has,ok.cab,ok.hd,ok.frames,ok.stk,ok.exf,ok.bs,ok.bsz,ok.noex,ok.exfs,ok.funs,ok.frf⟩
theorem Cx.Ok.unwish {X:Cx}{E:Value→Shared→Prop} (ok:(X.wish E).Ok):X.Ok:=
 ⟨ok.mod,ok.kind,ok.glob,ok.blt,ok.above,ok.inj,ok.has,ok.cab,ok.hd,ok.frames,ok.stk,ok.exf,ok.bs,ok.bsz,ok.noex,ok.exfs,ok.funs,ok.frf⟩
section
variable {X:Cx}{pins:List (Addr×Obj)}{σ:St}{H:Hp}{s:Shared}{E:Value→Shared→Prop}
theorem Inv.wish (I:Inv X pins σ H s) (E:Value→Shared→Prop):Inv (X.wish E) pins σ H s:=⟨I.ok.wish E,I.os,I.bare,I.base,I.loc,I.cell,I.free,I.freeC,I.pin,I.hok,I.len⟩
theorem Inv.unwish (I:Inv (X.wish E) pins σ H s):Inv X pins σ H s:=⟨I.ok.unwish,I.os,I.bare,I.base,I.loc,I.cell,I.free,I.freeC,I.pin,I.hok,I.len⟩
theorem SP.unwish {D:Ends}{f:Flow}{s':Shared} (h:SP (X.wish E) pins D f s'):SP X pins D f s':=by
 cases f with
 |next=>obtain⟨σ',H',I,q⟩:=h;exact⟨σ',H',I.unwish,q⟩
 |brk=>obtain⟨σ',H',I,q⟩:=h;exact⟨σ',H',I.unwish,q⟩
 |cont=>obtain⟨σ',H',I,q⟩:=h;exact⟨σ',H',I.unwish,q⟩
 |ret u=>obtain⟨v,σ',H',I,r,q⟩:=h;exact⟨v,σ',H',I.unwish,r,q⟩
theorem PSs.nox {st:List Stmt}{t:TS} (h:PSs X.nox st t):PSs X st t:=fun pins s σ H D I hw=>
 wpAny_mono (h pins s σ H D (I.wish _) hw) (fun _ _ q=>q.unwish) fun _ _ z=>False.elim z
end
section
variable {X:Cx}{st:Stmt}{rest:List Stmt}{t u:TS}{e:Expr}{te:TE}{pos:Pos}
def tNext:TS:=fun D σ H=>D.nx σ H
def tSeq (t u:TS):TS:=fun D σ H=>t { D with nx:=u D } σ H
theorem ϖG:PSs X [] tNext:=fun _ _ σ H _ I h=>wpAny_execs_nil ⟨σ,H,I,h⟩
theorem ϖd (h1:PS X st t) (h2:PSs X rest u):PSs X (st::rest) (tSeq t u):=by
 intro pins s σ H D I h
 refine wpAny_execs_cons (thn (h1 pins s σ H { D with nx:=u D } I h) fun f s1 q=>?_)
 cases f with
 |next=>
  obtain⟨σ',H',I',q⟩:=q
  exact h2 pins s1 σ' H' D I' q
 |ret v=>exact q
 |brk=>exact q
 |cont=>exact q
theorem ϖk (h1:PS X st t):PSs X [st] t:=by
 intro pins s σ H D I h
 refine wpAny_execs_cons (thn (h1 pins s σ H D I h) fun f s1 q=>?_)
 cases f with
 |next=>exact wpAny_execs_nil q
 |ret v=>exact q
 |brk=>exact q
 |cont=>exact q
theorem Inv.quiet {pins:List (Addr×Obj)}{σ:St}{H:Hp}{s:Shared} (I:Inv X pins σ H s):interactive X.env=false:=by simp[interactive,I.ok.kind]
def tDrop (te:TE):TS:=fun D σ H=>te σ H fun _ H1=>D.nx σ H1
theorem ϑ6 (he:PE X e te) (hs:swapsWith e none pos.line X.env=pure false:=by rfl):PS X (.Expr e pos) (tDrop te):=by
 intro pins s σ H D I h
 exact wpAny_Expr_any (thn (he pins s σ H _ I h) fun v s1 ⟨x,H1,I1,r1,q1⟩=>⟨σ,H1,I1,q1⟩) I.quiet hs
def tRet (te:TE):TS:=fun D σ H=>te σ H D.rt
theorem ϖE (he:PE X e te):PS X (.Return (some e) pos) (tRet te):=by
 intro pins s σ H D I h
 exact wpAny_Return_some (thn (he pins s σ H _ I h) fun v s1 ⟨x,H1,I1,r1,q1⟩=>⟨x,σ,H1,I1,r1,q1⟩)
def tIfS (c:TT) (t u:TS):TS:=fun D σ H=>c σ H fun b H1=>if b=true then t D σ H1 else u D σ H1
theorem ϑm {c:Expr}{a b:List Stmt}{tc:TT} (hc:PT X c tc) (ha:PSs X a t) (hb:PSs X b u):PS X (.If c a b pos) (tIfS tc t u):=by
 intro pins s σ H D I h
 refine wpAny_If (thn (hc pins s σ H _ I h) fun d s1 ⟨H1,I1,q1⟩=>?_)
 cases d with
 |true=>exact ha pins s1 σ H1 D I1 q1
 |false=>exact hb pins s1 σ H1 D I1 q1
end
abbrev TG:=V→St→Hp→(St→Hp→Prop)→Prop
abbrev TGs:=List V→St→Hp→(St→Hp→Prop)→Prop
def PG (X:Cx) (target:Expr) (t:TG):Prop:=
 ∀(pins:List (Addr×Obj)) (s:Shared) (σ:St) (H:Hp) (v:V) (u:Value) (Q:St→Hp→Prop),Inv X pins σ H s→RelV v u→t v σ H Q →
  wpAny (model X.prog X.w) X.A (assign target X.env u) (fun _ s'=>∃σ' H',Inv X pins σ' H' s'∧Q σ' H') X.xe s
def PGs (X:Cx) (ts:List Expr) (t:TGs):Prop:=
 ∀(pins:List (Addr×Obj)) (s:Shared) (σ:St) (H:Hp) (vs:List V) (us:List Value) (Q:St→Hp→Prop),Inv X pins σ H s→Vals vs us→t vs σ H Q →
  wpAny (model X.prog X.w) X.A (assignInOrder ((assignEach ts X.env).map (·.2)) us) (fun _ s'=>∃σ' H',Inv X pins σ' H' s'∧Q σ' H') X.xe s
section
variable {X:Cx}{pos:Pos}
def gName (i:Nat):TG:=fun v σ H Q=>Q (σ.set i (some v)) H
theorem ϖm {i:Nat}{x:Str} (hN:X.N.Nodup) (hi:X.N[i]?=some x) (hx:Loc X.env.scope x) (hf:X.fn x=true∨X.env.scope.names.lookup x=some .local:=by first|exact .inl rfl|exact .inr rfl|assumption):PG X (.Name x pos) (gName i):=by
 intro pins s σ H v u Q I r h
 exact wpAny_assign_Name (ϡO I hN hi hx r (fun s' I'=>⟨_,H,I',h⟩) hf)
def gNil:TGs:=fun vs σ H Q=>vs=[]∧Q σ H
def gCons (t:TG) (u:TGs):TGs:=fun vs σ H Q=>∃v r,vs=v::r∧t v σ H fun σ' H'=>u r σ' H' Q
theorem ϑV:PGs X [] gNil:=by
 intro pins s σ H vs us Q I r h
 obtain⟨e,h⟩:=h
 subst e
 cases r
 exact assignInOrder_nil ⟨σ,H,I,h⟩
theorem ϖu {e:Expr}{es:List Expr}{t:TG}{u:TGs} (h1:PG X e t) (h2:PGs X es u)
  (hs:(assignEach (e::es) X.env).map (·.2)=assign e X.env::(assignEach es X.env).map (·.2):=by rfl):PGs X (e::es) (gCons t u):=by
 intro pins s σ H vs us Q I r h
 obtain⟨v,vr,e1,h⟩:=h
 subst e1
 cases r with
 |cons r rr=>
  rw[hs]
  refine assignInOrder_cons (thn (h1 pins s σ H _ _ _ I r h) fun _ s1 ⟨σ1,H1,I1,q1⟩=>?_)
  exact h2 pins s1 σ1 H1 _ _ Q I1 rr q1
def gTup (K:PySem.W.Frag) (n:Nat) (t:TGs):TG:=fun v σ H Q=>∃a xs,v=.ref a∧SqT K H a xs∧xs.length=n∧t xs σ H Q
theorem ϕJ {es:List Expr}{k:Nat}{t:TGs}{n:Nat} (hc:X.calm=true) (h:PGs X es t)
  (hn:(assignEach es X.env).length=n:=by rfl) (hst:(assignEach es X.env).findIdx? (·.1)=none:=by rfl):PG X (.Tuple es k pos) (gTup X.K n t):=by
 intro pins s σ H v u Q I r hw
 obtain⟨a,xs,e1,hq,hl,hw⟩:=hw
 subst e1
 cases r
 obtain⟨its,rv,ht,hz⟩:=I.tuple hq
 refine assign_Tuple_tuple (I.ok.hd hc) ht (by simp[hn,← hl,rv.length]) hst fun h' hx=>?_
 have I1:Inv X pins σ H { s with heap:=h' }:=I.kept (t':=s.toks) fun b o e=>hx b o (Nat.ne_of_lt (Heap.lt_size e)) e
 exact h pins _ σ H xs _ Q I1 (by simpa using rv) hw
def tAsg (te:TE) (g:TG):TS:=fun D σ H=>te σ H fun x H1=>g x σ H1 D.nx
theorem ϟt {tg e:Expr}{te:TE}{g:TG} (he:PE X e te) (hg:PG X tg g) (hs:swapsWithSole [tg] e pos.line X.env=pure false:=by rfl) (hw:swappedStores [tg] e X.env=pure none:=by rfl)
  (h1:(assignEach [tg] X.env).map (·.2)=[assign tg X.env]:=by rfl):PS X (.Assign [tg] e pos) (tAsg te g):=by
 intro pins s σ H D I h
 refine wpAny_Assign_stores (thn (he pins s σ H _ I h) fun v s1 ⟨x,H1,I1,r1,q1⟩=>?_) hs hw
 rw[h1]
 exact thn (hg pins s1 σ H1 x v _ I1 r1 q1) fun _ s2 q=>q
theorem ϖn {i:Nat}{x:Str}{e:Expr}{te:TE}{pos':Pos} (hN:X.N.Nodup) (hi:X.N[i]?=some x) (hx:Loc X.env.scope x) (he:PE X e te) (hs:swapsWith e (some (.Name x pos')) pos.line X.env=pure false:=by rfl) (hf:X.fn x=true∨X.env.scope.names.lookup x=some .local:=by first|exact .inl rfl|exact .inr rfl|assumption) :
  PS X (.Assign [.Name x pos'] e pos) (tAsg te (gName i)):=by
 intro pins s σ H D I h
 refine wpAny_Assign_Name (thn (he pins s σ H _ I h) fun v s1 ⟨y,H1,I1,r1,q1⟩=>?_) hs
 exact ϡO I1 hN hi hx r1 (fun s2 I2=>⟨_,H1,I2,q1⟩) hf
end
section
variable {X:Cx}{pos:Pos}
def tWhile (c:TT) (tb:TS):TS:=fun D σ H=>∃W:Nat→St→Hp→Prop,(∃ m,W m σ H)∧∀m σ H,W m σ H →
 c σ H fun b H1=>if b=true then ∃N:St→Hp→Prop,(∀ σ' H',N σ' H'→∃m',m' < m∧W m' σ' H')∧tb { D with nx:=N,ct:=N,bk:=D.nx } σ H1 else D.nx σ H1
theorem ϡP {c:Expr}{body:List Stmt}{tc:TT}{tb:TS} (hp:PassesOwn (model X.prog X.w) X.A X.env X.xe) (hc:PT X c tc) (hb:PSs X body tb):PS X (.While c body [] pos) (tWhile tc tb):=by
 intro pins s σ H D I h
 obtain⟨W,⟨m0,w0⟩,turn⟩:=h
 refine wpAny_While (codeAny_whileLoop (fun n s'=>∃σ' H',Inv X pins σ' H' s'∧W n σ' H') ?_ m0 ⟨σ,H,I,w0⟩)
 rintro n s1 ⟨σ1,H1,I1,w1⟩
 refine wpAny_passesOwn hp (thn (hc pins s1 σ1 H1 _ I1 (turn n σ1 H1 w1)) fun b s2 ⟨H2,I2,q2⟩=>?_)
 cases b with
 |true=>
  obtain⟨N,hN,q2⟩:=q2
  rw[if_pos rfl]
  refine wpAny_passesOwn hp (thn (hb pins s2 σ1 H2 _ I2 q2) fun f s3 q3=>?_)
  cases f with
  |next=>
   obtain⟨σ3,H3,I3,n3⟩:=q3
   obtain⟨m',hm,w3⟩:=hN σ3 H3 n3
   exact⟨m',hm,σ3,H3,I3,w3⟩
  |cont=>
   obtain⟨σ3,H3,I3,n3⟩:=q3
   obtain⟨m',hm,w3⟩:=hN σ3 H3 n3
   exact⟨m',hm,σ3,H3,I3,w3⟩
  |brk=>exact q3
  |ret v=>exact q3
 |false=>
  rw[if_neg Bool.false_ne_true]
  exact wpAny_execs_nil ⟨σ1,H2,I2,q2⟩
end
structure It where
 go:Nat→Hp→Prop
 yld:Nat→Hp→V→Hp→Prop
 stop:Nat→Hp→Prop
def FpOk (X:Cx) (pins:List (Addr×Obj)) (H:Hp) (b:Addr):Prop:=
 H b=none∧b≠X.env.locals∧b∉X.fs∧(b∈X.ex∨X.s₀.heap.objs.size≤b)∧(∀ x c,X.env.cells.lookup x=some c→c≠b)∧∀p∈X.pn++pins,p.1≠b
theorem Inv.fpOk {X:Cx}{pins:List (Addr×Obj)}{σ:St}{H H':Hp}{s:Shared}{b:Addr} (I:Inv X pins σ H s) (hb:s.heap.objs.size≤b) (hn:H' b=none):FpOk X pins H' b:=by
 refine⟨hn,Nat.ne_of_gt (Nat.lt_of_lt_of_le I.lt hb),I.nofs hb,.inr (Nat.le_trans I.sz hb),fun x c e z=>?_,fun p hp z=>?_⟩
 ·obtain⟨v,q⟩:=I.cell x c e
  exact absurd (Nat.lt_of_lt_of_le q.lt (by rw[z];exact hb)) (Nat.lt_irrefl _)
 ·exact absurd (Nat.lt_of_lt_of_le (Heap.lt_size (I.pin p hp).1) (by rw[z];exact hb)) (Nat.lt_irrefl _)
structure Turn (P:Program) (w:World) (K:PySem.W.Frag) (tg:Expr) (J:It) (fp:List Addr) (it:Addr) (tn:Nat→Heap→Prop):Prop where
 mem:it∈fp
 obj:∀i h,tn i h→∀b∈fp,∃o,h.get? b=some o∧∀v,o.data≠.cell v
 keep:∀i h h',tn i h→(∀ b∈fp,∀o,h.get? b=some o→h'.get? b=some o)→tn i h'
 item:∀(X:Cx),X.prog=P→X.w=w→X.K=K→X.calm=true→∀(i:Nat) (pins:List (Addr×Obj)) (s:Shared) (σ:St) (H:Hp) (E:Value→Shared→Prop),Inv X pins σ H s→(∀ b∈fp,FpOk X pins H b)→tn i s.heap→J.go i H →
  wpAny (model P w) X.A (pyNext (.ref it)) (fun r s1=>∃u,r=some u ∧
   wpAny (model P w) X.A (letOwnedTupleGo tg (.ref it) u) (fun _ s2=>∃x H',Inv X pins σ H' s2∧RelV x u∧J.yld i H x H'∧tn (i+1) s2.heap∧∀b∈fp,H' b=none) E s1) E s
 done:∀(X:Cx),X.prog=P→X.w=w→X.K=K→X.calm=true→∀(i:Nat) (pins:List (Addr×Obj)) (s:Shared) (σ:St) (H:Hp) (E:Value→Shared→Prop),Inv X pins σ H s→(∀ b∈fp,FpOk X pins H b)→tn i s.heap→J.stop i H →
  wpAny (model P w) X.A (pyNext (.ref it)) (fun r s1=>r=none∧Inv X pins σ H s1) E s
 self:∀(A:Around) (i:Nat) (s:Shared) (Q:Value→Shared→Prop) (E:Value→Shared→Prop),tn i s.heap→Q (.ref it) s→wpAny (model P w) A (pyIter (.ref it)) Q E s
abbrev TI:=St→Hp→(It→Hp→Prop)→Prop
def PIE (X:Cx) (pins:List (Addr×Obj)) (σ:St) (tg:Expr) (R:It→Hp→Prop) (itv:Value) (s2:Shared):Prop:=
 ∃(it:Addr) (fp:List Addr) (tn:Nat→Heap→Prop) (J:It) (H':Hp),itv=.ref it∧Inv X pins σ H' s2∧Turn X.prog X.w X.K tg J fp it tn∧tn 0 s2.heap∧(∀ b∈fp,FpOk X pins H' b)∧R J H'
def PI (X:Cx) (tg iter:Expr) (wi:TI):Prop:=
 ∀(pins:List (Addr×Obj)) (s:Shared) (σ:St) (H:Hp) (R:It→Hp→Prop),Inv X pins σ H s→wi σ H R →
  wpAny (model X.prog X.w) X.A (eval iter X.env) (fun v s1=>wpAny (model X.prog X.w) X.A (pyIter v) (PIE X pins σ tg R) X.xe s1) X.xe s
theorem ϛt {M:Model}{A:Around}{E:Value→Shared→Prop}{s:Shared}{tg:Expr}{it:Addr}{u:Value}{o:Obj}{n:String}{vs:Array Value}{Q:Unit→Shared→Prop} (ho:s.heap.get? it=some o) (hc:o.cls=.type n) (hd:o.data=.fields vs)
  (hn:["enumerate","zip","dict_itemiterator","dict_reverseitemiterator","odict_iterator","itertools.zip_longest","itertools.pairwise"].contains n=false) (hQ:Q () s):wpAny M A (letOwnedTupleGo tg (.ref it) u) Q E s:=by
 unfold letOwnedTupleGo
 cases tg<;>first
  |exact wpAny_pure hQ
  |(cases u<;>first
    |exact wpAny_pure hQ
    |(refine wpAny_bind (wpAny_load ho ?_)
      rw[hc,hd]
      show wpAny M A (if (["enumerate","zip","dict_itemiterator","dict_reverseitemiterator","odict_iterator","itertools.zip_longest","itertools.pairwise"].contains n && vs[0]? == some (rawInt _))=true then _ else _) Q E s
      rw[if_neg (by intro h;rw[hn,Bool.false_and] at h;cases h)]
      exact wpAny_pure hQ))
def Itl (K:PySem.W.Frag) (a:Addr):It:=
 ⟨fun i H=>∃xs x,SqL K H a xs∧xs[i]?=some x,fun i H x H'=>H'=H∧∀xs,SqL K H a xs→xs[i]?=some x,fun i H=>∃xs,SqL K H a xs∧xs.length≤i⟩
def Itt (K:PySem.W.Frag) (a:Addr):It:=
 ⟨fun i H=>∃xs x,SqT K H a xs∧xs[i]?=some x,fun i H x H'=>H'=H∧∀xs,SqT K H a xs→xs[i]?=some x,fun i H=>∃xs,SqT K H a xs∧xs.length≤i⟩
def Itr (lo:Int) (n:Nat):It:=⟨fun i _=>i < n,fun i H x H'=>H'=H∧x=.int (lo+i),fun i _=>n≤i⟩
theorem ϝx {P:Program}{w:World}{K:PySem.W.Frag}{tg:Expr} (a it:Addr):Turn P w K tg (Itl K a) [it] it (fun i h=>h.IsListIter it a i) where
 mem:=by simp
 obj:=fun i h st b hb=>by
  have e:b=it:=by simpa using hb
  subst e
  obtain⟨o,e,c,d⟩:=st
  exact⟨o,e,fun v z=>by rw[d] at z;cases z⟩
 keep:=fun i h h' st k=>st.at fun o e=>k it (by simp) o e
 item:=by
  intro X hP hw hK hc i pins s σ H E I hf st hg
  subst hP hw hK
  obtain⟨xs,x,hq,hx⟩:=hg
  obtain⟨its,rv,p,hz⟩:=I.list hq
  obtain⟨u,hu,ru⟩:=rv.get hx
  obtain⟨f0,f1,f2,f3,f4,f5⟩:=hf it (by simp)
  refine wpAny_pyNext_list_item st p.isList (x:=u) (by simpa using hu) fun h' st' sb=>?_
  have I1:Inv X pins σ H { s with heap:=h' }:=I.turned (t':=s.toks) (fun b o hb e=>(sb.2 b hb).trans e) f0 f1 f3 f4 f5
  obtain⟨o,e,c,d⟩:=id st'
  exact⟨u,rfl,ϛt (s:={ s with heap:=h' }) e c d (by decide) ⟨x,H,I1,ru,⟨rfl,fun ys hy=>by rw[I.list_inj hy hq];exact hx⟩,st',fun b hb=>(hf b hb).1⟩⟩
 done:=by
  intro X hP hw hK hc i pins s σ H E I hf st hg
  subst hP hw hK
  obtain⟨xs,hq,hx⟩:=hg
  obtain⟨its,rv,p,hz⟩:=I.list hq
  obtain⟨f0,f1,f2,f3,f4,f5⟩:=hf it (by simp)
  have hl:=rv.length
  exact wpAny_pyNext_list_end (I.ok.hd hc) st p.isList (by simp;omega) fun h' eb=>⟨rfl,I.turned (t':=s.toks) (fun b o hb e=>eb b o hb e) f0 f1 f3 f4 f5⟩
 self:=fun _ _ _ _ _ st h=>wpAny_pyIter_listiter st h
theorem ϟB {P:Program}{w:World}{K:PySem.W.Frag}{tg:Expr} (it:Addr) (lo:Int) (n:Nat):Turn P w K tg (Itr lo n) [it] it (fun i h=>IsRangeIter h it (lo+(i:Nat)*1) ((n:Int)-(i:Nat)) 1) where
 mem:=by simp
 obj:=fun i h st b hb=>by
  have e:b=it:=by simpa using hb
  subst e
  exact⟨_,st,fun v z=>by
   have z':Data.fields _=Data.cell v:=z
   cases z'⟩
 keep:=fun i h h' st k=>k it (by simp) _ st
 item:=by
  intro X hP hw hK hc i pins s σ H E I hf st hg
  subst hP hw hK
  obtain⟨f0,f1,f2,f3,f4,f5⟩:=hf it (by simp)
  have W:=Walks.range (prog:=X.prog) (w:=X.w) (I.ok.hd hc) it lo 1 n
  refine W.item i s _ _ hg st fun v h' tk hv st' kk=>?_
  obtain⟨t,rfl⟩:=hv
  have I1:Inv X pins σ H { s with heap:=h',toks:=tk }:=I.turned (fun b o hb e=>kk b o (by simpa using hb) e) f0 f1 f3 f4 f5
  refine⟨_,rfl,ϛt (s:={ s with heap:=h',toks:=tk }) (n:="range_iterator") st' rfl rfl (by decide) ⟨.int (lo+i),H,I1,⟨t,?_⟩,⟨rfl,rfl⟩,st',fun b hb=>(hf b hb).1⟩⟩
  rw[Int.mul_one]
 done:=by
  intro X hP hw hK hc i pins s σ H E I hf st hg
  subst hP hw hK
  obtain⟨f0,f1,f2,f3,f4,f5⟩:=hf it (by simp)
  exact wpAny_pyNext_range_end (I.ok.hd hc) st (by have:n≤i:=hg;omega) fun h' eb=>⟨rfl,I.turned (t':=s.toks) (fun b o hb e=>eb b o hb e) f0 f1 f3 f4 f5⟩
 self:=fun _ _ _ _ _ st h=>wpAny_pyIter_rangeiter st h
end L2
namespace L2
open PySem PySem.Spec PyProof.Rows
section
variable {X:Cx}{tg:Expr}
def ϑO (K:PySem.W.Frag) (tl:TE):TI:=fun σ H R=>tl σ H fun x H1=>∃a,x=.ref a∧(∃ xs,SqL K H1 a xs)∧R (Itl K a) H1
theorem ϖR {l:Expr}{tl:TE} (hl:PE X l tl):PI X tg l (ϑO X.K tl):=by
 intro pins s σ H R I h
 refine thn (hl pins s σ H _ I h) fun v s1 ⟨x,H1,I1,r1,q1⟩=>?_
 obtain⟨a,e,⟨xs,hq⟩,q⟩:=q1
 subst e
 cases r1
 obtain⟨its,rv,p,hz⟩:=I1.list hq
 refine wpAny_pyIter_list p.isList ?_
 refine⟨s1.heap.objs.size,[s1.heap.objs.size],_,_,H1,rfl,I1.kept (t':=s1.toks) fun b o e=>Heap.get?_push_of_some _ e,ϝx a _,⟨_,Heap.get?_push_size _ rfl,rfl,rfl⟩,fun b hb=>?_,q⟩
 have e:b=s1.heap.objs.size:=by simpa using hb
 subst e
 exact I1.fpOk (Nat.le_refl _) (I1.hok.fresh (Nat.le_refl _))
theorem ϡV {pins:List (Addr×Obj)}{σ:St}{H:Hp}{s:Shared}{R:It→Hp→Prop}{E:Value→Shared→Prop}{lo hi:Int}{t u v:Tok}{tk:Nat} (I:Inv X pins σ H s) (h1:-(2 ^ 62)≤lo) (h2:lo < 2 ^ 62) (h3:-(2 ^ 62)≤hi) (h4:hi < 2 ^ 62)
  (q:R (Itr lo (hi-lo).toNat) H):wpAny (model X.prog X.w) X.A (pyIter (.ref s.heap.objs.size)) (PIE X pins σ tg R) E { s with heap:=s.heap.push { cls:=.type "range",data:=.fields #[.int lo t,.int hi u,.int 1 v] },toks:=tk }:=by
 refine wpAny_pyIter_range (IsRange.new ..) (small_one h1 h2 h3 h4) ?_
 have I1:Inv X pins σ H { s with heap:=s.heap.push { cls:=.type "range",data:=.fields #[.int lo t,.int hi u,.int 1 v] },toks:=tk }:=I.kept fun b o e=>Heap.get?_push_of_some _ e
 refine⟨(s.heap.push { cls:=.type "range",data:=.fields #[.int lo t,.int hi u,.int 1 v] }).objs.size,[(s.heap.push { cls:=.type "range",data:=.fields #[.int lo t,.int hi u,.int 1 v] }).objs.size],_,_,H,rfl,
  I1.kept (t':=tk) fun b o e=>Heap.get?_push_of_some _ e,ϟB _ lo (hi-lo).toNat,?_,fun b hb=>?_,q⟩
 ·have e1:lo+((0:Nat):Int)*1=lo:=by simp
  have e2:(((hi-lo).toNat:Nat):Int)-((0:Nat):Int)=Builtin.Range.rangeSize lo hi 1:=by rw[rangeSize_one];split<;>omega
  show IsRangeIter _ _ (lo+((0:Nat):Int)*1) ((((hi-lo).toNat:Nat):Int)-((0:Nat):Int)) 1
  rw[e1,e2]
  exact Heap.get?_push_size _ rfl
 ·have e:b=(s.heap.push { cls:=.type "range",data:=.fields #[.int lo t,.int hi u,.int 1 v] }).objs.size:=by simpa using hb
  subst e
  exact I1.fpOk (Nat.le_refl _) (I1.hok.fresh (Nat.le_refl _))
def iRng1 (ta:TA):TI:=fun σ H R=>ta σ H fun vs H1=>∃j:Int,vs=[.int j]∧-(2 ^ 62)≤j∧j < 2 ^ 62∧R (Itr 0 j.toNat) H1
def iRng2 (ta:TA):TI:=fun σ H R=>ta σ H fun vs H1=>∃i j:Int,vs=[.int i,.int j]∧(-(2 ^ 62)≤i∧i < 2 ^ 62∧-(2 ^ 62)≤j∧j < 2 ^ 62)∧R (Itr i (j-i).toNat) H1
theorem ϰG {a:Expr}{ta:TA}{p pos:Pos} (hg:Gl X "range") (hm:X.mg "range"=none) (ha:PA X [a] ta) (hs:starEach [a] X.env=[(false,eval a X.env)]:=by rfl):PI X tg (.Call (.Name "range" p) [a] [] pos) (iRng1 ta):=by
 intro pins s σ H R I h
 refine Call_ (ϱY I hg hm boot_range (PyProof.Rows.callWith_type1 (thn (ha pos pins s σ H _ I h) fun us s1 ⟨vs,H1,I1,r1,q1⟩=>?_) hs rfl))
 obtain⟨j,e,q1,q2,q⟩:=q1
 subst e
 cases r1 with
 |cons r rr=>
  cases rr
  obtain⟨t,rfl⟩:=r
  exact call_range_1 (ϡV I1 (by omega) (by omega) q1 q2 (by simpa using q))
theorem ϱR {a b:Expr}{ta:TA}{p pos:Pos} (hg:Gl X "range") (hm:X.mg "range"=none) (ha:PA X [a,b] ta) (hs:starEach [a,b] X.env=[(false,eval a X.env),(false,eval b X.env)]:=by rfl) (hs2:starEach [b] X.env=[(false,eval b X.env)]:=by rfl) :
  PI X tg (.Call (.Name "range" p) [a,b] [] pos) (iRng2 ta):=by
 intro pins s σ H R I h
 refine Call_ (ϱY I hg hm boot_range (PyProof.Rows.callWith_type1 (thn (ha pos pins s σ H _ I h) fun us s1 ⟨vs,H1,I1,r1,q1⟩=>?_) (by rw[hs,hs2]) (by rw[hs2];rfl)))
 obtain⟨i,j,e,⟨q1,q2,q3,q4⟩,q⟩:=q1
 subst e
 cases r1 with
 |cons r rr=>
  cases rr with
  |cons r' rr=>
   cases rr
   obtain⟨t,rfl⟩:=r
   obtain⟨t',rfl⟩:=r'
   exact call_range_2 (ϡV I1 q1 q2 q3 q4 q)
def tFor (wi:TI) (g:TG) (tb:TS):TS:=fun D σ H=>wi σ H fun J H1=>∃W:Nat→Nat→St→Hp→Prop,(∃ m,W 0 m σ H1)∧∀i m σ H,W i m σ H →
 (J.stop i H∧D.nx σ H)∨(J.go i H∧∃N:St→Hp→Prop,(∀ σ' H',N σ' H'→∃m',m' < m∧W (i+1) m' σ' H')∧∀x H',J.yld i H x H'→g x σ H' fun σ2 H2=>tb { D with nx:=N,ct:=N,bk:=D.nx } σ2 H2)
def ϲU (fp:List Addr) (h:Heap):List (Addr×Obj):=fp.filterMap fun b=>(h.get? b).map fun o=>(b,o)
theorem ϰc {fp:List Addr}{h:Heap}{b:Addr}{o:Obj} (hb:b∈fp) (e:h.get? b=some o):(b,o)∈ϲU fp h:=List.mem_filterMap.mpr ⟨b,hb,by rw[e];rfl⟩
theorem ϝl {fp:List Addr}{h:Heap}{p:Addr×Obj} (hp:p∈ϲU fp h):p.1∈fp∧h.get? p.1=some p.2:=by
 obtain⟨b,hb,e⟩:=List.mem_filterMap.mp hp
 cases q:h.get? b with
 |none=>rw[q] at e;cases e
 |some o=>
  rw[q] at e
  have e':(b,o)=p:=Option.some.inj e
  subst e'
  exact⟨hb,q⟩
theorem Inv.pinned {pins:List (Addr×Obj)}{σ:St}{H:Hp}{s:Shared}{fp:List Addr} (I:Inv X pins σ H s) (hf:∀b∈fp,FpOk X pins H b) (ho:∀b∈fp,∃o,s.heap.get? b=some o∧∀v,o.data≠.cell v):Inv X (pins++ϲU fp s.heap) σ H s:=
 I.pins_of fun p hp=>(List.mem_append.mp hp).elim (fun z=>I.pin p (List.mem_append_right _ z)) fun z=>by
  obtain⟨hb,e⟩:=ϝl z
  obtain⟨f0,f1,f2,_⟩:=hf p.1 hb
  obtain⟨o,e',d⟩:=ho p.1 hb
  rw[e] at e';cases e'
  exact⟨e,f0,f1,f2,d⟩
theorem Inv.unpinned {pins pl:List (Addr×Obj)}{σ:St}{H:Hp}{s:Shared} (I:Inv X (pins++pl) σ H s):Inv X pins σ H s:=I.pins_of fun p hp=>I.pin p (List.mem_append_right _ (List.mem_append_left _ hp))
theorem ϑs {iter:Expr}{body:List Stmt}{wi:TI}{g:TG}{tb:TS}{pos:Pos} (hp:PassesOwn (model X.prog X.w) X.A X.env X.xe) (hc:X.calm=true) (hi:PI X tg iter wi) (hg:PG X tg g) (hb:PSs X body tb)
  (hs:∀x,foldedSetIterable iter X.env x=pure x:=by intro _;rfl):PS X (.For tg iter body [] pos) (tFor wi g tb):=by
 intro pins s σ H D I h
 refine wpAny_For (thn (hi pins s σ H _ I h) fun v s1 h1=>thn h1 fun itv s2 h2=>?_) hs
 obtain⟨it,fp,tn,J,H2,e,I2,T,st2,f2,W,⟨m0,w0⟩,turn⟩:=h2
 subst e
 have stat:∀{H':Hp},(∀ b∈fp,H' b=none)→∀b∈fp,FpOk X pins H' b:=fun hn b hb=>⟨hn b hb,(f2 b hb).2⟩
 refine codeAny_forLoop_any (fun n s'=>∃i σ' H',Inv X pins σ' H' s'∧tn i s'.heap∧(∀ b∈fp,H' b=none)∧W i n σ' H') ?_ m0 ⟨0,σ,H2,I2,st2,fun b hb=>(f2 b hb).1,w0⟩
 rintro n s3 ⟨i,σ3,H3,I3,st3,fr3,w3⟩
 rcases turn i n σ3 H3 w3 with⟨stop,qn⟩|⟨go,N,hN,step⟩
 ·refine wpAny_passesOwn hp (thn (T.done X rfl rfl rfl hc i pins s3 σ3 H3 X.xe I3 (stat fr3) st3 stop) fun r s4 ⟨hr,I4⟩=>?_)
  subst hr
  exact wpAny_execs_nil ⟨σ3,H3,I4,qn⟩
 ·refine wpAny_passesOwn hp (thn (T.item X rfl rfl rfl hc i pins s3 σ3 H3 X.xe I3 (stat fr3) st3 go) fun r s4 ⟨u,hr,h4⟩=>?_)
  subst hr
  refine wpAny_passesOwn hp (thn h4 fun _ s5 ⟨x,H5,I5,r5,y5,st5,fr5⟩=>?_)
  have I5':=I5.pinned (stat fr5) (T.obj _ _ st5)
  refine wpAny_passesOwn hp (thn (hg _ s5 σ3 H5 x u _ I5' r5 (step x H5 y5)) fun _ s6 ⟨σ6,H6,I6,q6⟩=>?_)
  refine wpAny_passesOwn hp (thn (hb _ s6 σ6 H6 _ I6 q6) fun f s7 q7=>?_)
  have again:∀{σ7:St}{H7:Hp},Inv X (pins++ϲU fp s5.heap) σ7 H7 s7→N σ7 H7→∃m,m < n∧∃i σ' H',Inv X pins σ' H' s7∧tn i s7.heap∧(∀ b∈fp,H' b=none)∧W i m σ' H':=fun {σ7 H7} I7 n7=>by
   obtain⟨m',hm,w7⟩:=hN σ7 H7 n7
   refine⟨m',hm,i+1,σ7,H7,I7.unpinned,T.keep _ _ _ st5 fun b hb o e=>(I7.pin (b,o) (List.mem_append_right _ (List.mem_append_right _ (ϰc hb e)))).1,fun b hb=>?_,w7⟩
   obtain⟨o,e,d⟩:=T.obj _ _ st5 b hb
   exact(I7.pin (b,o) (List.mem_append_right _ (List.mem_append_right _ (ϰc hb e)))).2.1
  cases f with
  |next=>obtain⟨σ7,H7,I7,n7⟩:=q7;exact again I7 n7
  |cont=>obtain⟨σ7,H7,I7,n7⟩:=q7;exact again I7 n7
  |brk=>obtain⟨σ7,H7,I7,q7⟩:=q7;exact⟨σ7,H7,I7.unpinned,q7⟩
  |ret v=>obtain⟨x7,σ7,H7,I7,r7,q7⟩:=q7;exact⟨x7,σ7,H7,I7.unpinned,r7,q7⟩
end
theorem ϡQ {K:PySem.W.Frag}{a:Addr}{xs:List V}{g:TG}{tb:TS}{D:Ends}{σ:St}{H:Hp} (Pv:Nat→St→Hp→Prop) (h0:Pv 0 σ H) (hl:∀i σ H,i≤xs.length→Pv i σ H→SqL K H a xs)
  (hs:∀i x σ H,xs[i]?=some x→Pv i σ H→g x σ H fun σ2 H2=>tb { D with nx:=Pv (i+1),ct:=Pv (i+1),bk:=D.nx } σ2 H2) (hd:∀σ H,Pv xs.length σ H→D.nx σ H) :
  ∃W:Nat→Nat→St→Hp→Prop,(∃ m,W 0 m σ H)∧∀i m σ H,W i m σ H →
   ((Itl K a).stop i H∧D.nx σ H)∨((Itl K a).go i H∧∃N:St→Hp→Prop,(∀ σ' H',N σ' H'→∃m',m' < m∧W (i+1) m' σ' H')∧∀x H',(Itl K a).yld i H x H'→g x σ H' fun σ2 H2=>tb { D with nx:=N,ct:=N,bk:=D.nx } σ2 H2):=by
 refine⟨fun i m σ H=>m=xs.length-i∧i≤xs.length∧Pv i σ H,⟨xs.length,by simp,Nat.zero_le _,h0⟩,?_⟩
 rintro i m σ H ⟨rfl,hi,p⟩
 have q:=hl i σ H hi p
 by_cases hlt:i < xs.length
 ·refine .inr ⟨⟨xs,xs[i],q,by simp[hlt]⟩,Pv (i+1),fun σ' H' p'=>⟨xs.length-(i+1),by omega,rfl,hlt,p'⟩,fun x H' y=>?_⟩
  obtain⟨e,y⟩:=y
  subst e
  exact hs i x σ _ (y xs q) p
 ·have e:i=xs.length:=by omega
  subst e
  exact .inl ⟨⟨xs,q,Nat.le_refl _⟩,hd σ H p⟩
theorem ϟZ {lo:Int}{n:Nat}{g:TG}{tb:TS}{D:Ends}{σ:St}{H:Hp} (Pv:Nat→St→Hp→Prop) (h0:Pv 0 σ H)
  (hs:∀i σ H,i < n→Pv i σ H→g (.int (lo+i)) σ H fun σ2 H2=>tb { D with nx:=Pv (i+1),ct:=Pv (i+1),bk:=D.nx } σ2 H2) (hd:∀σ H,Pv n σ H→D.nx σ H) :
  ∃W:Nat→Nat→St→Hp→Prop,(∃ m,W 0 m σ H)∧∀i m σ H,W i m σ H →
   ((Itr lo n).stop i H∧D.nx σ H)∨((Itr lo n).go i H∧∃N:St→Hp→Prop,(∀ σ' H',N σ' H'→∃m',m' < m∧W (i+1) m' σ' H')∧∀x H',(Itr lo n).yld i H x H'→g x σ H' fun σ2 H2=>tb { D with nx:=N,ct:=N,bk:=D.nx } σ2 H2):=by
 refine⟨fun i m σ H=>m=n-i∧i≤n∧Pv i σ H,⟨n,by simp,Nat.zero_le _,h0⟩,?_⟩
 rintro i m σ H ⟨rfl,hi,p⟩
 by_cases hlt:i < n
 ·refine .inr ⟨hlt,Pv (i+1),fun σ' H' p'=>⟨n-(i+1),by omega,rfl,hlt,p'⟩,fun x H' y=>?_⟩
  obtain⟨e,y⟩:=y
  subst e y
  exact hs i σ _ hlt p
 ·have e:i=n:=by omega
  subst e
  exact .inl ⟨Nat.le_refl _,hd σ H p⟩
end L2
namespace L2
open PySem PySem.Spec PyProof.Rows
abbrev R2:=V→V→Hp→VK→Prop
def OpR (X:Cx) (f:Value→Value→Sem Value) (r:R2):Prop:=
 ∀(pins:List (Addr×Obj)) (s:Shared) (σ:St) (H:Hp) (x y:V) (v u:Value) (Q:VK),Inv X pins σ H s→RelV x v→RelV y u→r x y H Q →
  wpAny (model X.prog X.w) X.A (f v u) (EP X pins σ Q) X.xe s
def CallR (X:Cx) (f:Value) (r:List V→Hp→VK→Prop):Prop:=
 ∀(pins:List (Addr×Obj)) (s:Shared) (σ:St) (H:Hp) (xs:List V) (us:List Value) (Q:VK),Inv X pins σ H s→Vals xs us→r xs H Q →
  wpAny (model X.prog X.w) X.A (call f us) (EP X pins σ Q) X.xe s
def tOp (r:R2) (ta tb:TE):TE:=fun σ H Q=>ta σ H fun x H1=>tb σ H1 fun y H2=>r x y H2 Q
def rI (C:Int→Int→Prop) (g:Int→Int→V):R2:=fun x y H Q=>∃i j,x=.int i∧y=.int j∧C i j∧Q (g i j) H
def rI0 (g:Int→Int→V):R2:=fun x y H Q=>∃i j,x=.int i∧y=.int j∧Q (g i j) H
section
variable {X:Cx}{a b c:Expr}{ta tb tc:TE}{pos:Pos}
theorem binT (ha:PE X a ta) (hb:PE X b tb) {pins:List (Addr×Obj)}{s:Shared}{σ:St}{H:Hp}{R:V→V→Hp→Prop} (I:Inv X pins σ H s)
  (h:ta σ H fun x H1=>tb σ H1 fun y H2=>R x y H2) {Q:Value→Shared→Prop}{f:Value→Value→Sem Value}
  (hf:∀v u s2 x y H2,Inv X pins σ H2 s2→RelV x v→RelV y u→R x y H2→wpAny (model X.prog X.w) X.A (f v u) Q X.xe s2) :
  wpAny (model X.prog X.w) X.A (eval a X.env) (fun v s₁=>wpAny (model X.prog X.w) X.A (eval b X.env) (fun u s₂=>wpAny (model X.prog X.w) X.A (f v u) Q X.xe s₂) X.xe s₁) X.xe s:=by
 refine thn (ha pins s σ H _ I h) fun v s1 ⟨x,H1,I1,r1,q1⟩=>?_
 refine thn (hb pins s1 σ H1 _ I1 q1) fun u s2 ⟨y,H2,I2,r2,q2⟩=>?_
 exact hf v u s2 x y H2 I2 r1 r2 q2
theorem ϖt {op:Operator}{r:R2} (ho:OpR X (binaryOp op) r) (ha:PE X a ta) (hb:PE X b tb):PE X (.BinOp a op b pos) (tOp r ta tb):=by
 intro pins s σ H Q I h
 exact wpAny_BinOp (binT ha hb I h fun v u s2 x y H2 I2 rx ry q=>ho pins s2 σ H2 x y v u Q I2 rx ry q)
theorem opI {f:Value→Value→Sem Value}{C:Int→Int→Prop}{g:Int→Int→Int}
  (rule:∀(i j:Int) (t u:Tok) (s:Shared) (Q:Value→Shared→Prop) (E:Value→Shared→Prop),C i j→Q (.int (g i j) s.toks) { s with toks:=s.toks+1 }→wpAny (model X.prog X.w) X.A (f (.int i t) (.int j u)) Q E s) :
  OpR X f (rI C fun i j=>.int (g i j)):=by
 intro pins s σ H x y v u Q I rx ry h
 obtain⟨i,j,rfl,rfl,hc,q⟩:=h
 obtain⟨t,rfl⟩:=rx
 obtain⟨t',rfl⟩:=ry
 exact rule i j t t' s _ _ hc ⟨.int (g i j),H,I.tok _,⟨_,rfl⟩,q⟩
theorem opI0 {f:Value→Value→Sem Value}{g:Int→Int→Int}
  (rule:∀(i j:Int) (t u:Tok) (s:Shared) (Q:Value→Shared→Prop) (E:Value→Shared→Prop),Q (.int (g i j) s.toks) { s with toks:=s.toks+1 }→wpAny (model X.prog X.w) X.A (f (.int i t) (.int j u)) Q E s) :
  OpR X f (rI0 fun i j=>.int (g i j)):=by
 intro pins s σ H x y v u Q I rx ry h
 obtain⟨i,j,rfl,rfl,q⟩:=h
 obtain⟨t,rfl⟩:=rx
 obtain⟨t',rfl⟩:=ry
 exact rule i j t t' s _ _ ⟨.int (g i j),H,I.tok _,⟨_,rfl⟩,q⟩
theorem opB0 {f:Value→Value→Sem Value}{g:Int→Int→Bool}
  (rule:∀(i j:Int) (t u:Tok) (s:Shared) (Q:Value→Shared→Prop) (E:Value→Shared→Prop),Q (.bool (g i j)) s→wpAny (model X.prog X.w) X.A (f (.int i t) (.int j u)) Q E s) :
  OpR X f (rI0 fun i j=>.bl (g i j)):=by
 intro pins s σ H x y v u Q I rx ry h
 obtain⟨i,j,rfl,rfl,q⟩:=h
 obtain⟨t,rfl⟩:=rx
 obtain⟨t',rfl⟩:=ry
 exact rule i j t t' s _ _ ⟨.bl (g i j),H,I,rfl,q⟩
def CDiv (i j:Int):Prop:=0 < j∧j < 1073741824
def CMul (i j:Int):Prop:=(-(2 ^ 64) < i∧i < 2 ^ 64)∨(-(2 ^ 64) < j∧j < 2 ^ 64)
theorem CMul.ok {i j:Int} (h:CMul i j):IntMulOk i j:=by
 rcases h with⟨h1,h2⟩|⟨h1,h2⟩
 ·exact .of_left (intBits_le_64 h1 h2)
 ·exact .of_right (intBits_le_64 h1 h2)
theorem ϟL (k:Nat):(0:Int)≤2 ^ k:=by
 rw[two_pow_cast]
 exact Int.natCast_nonneg _
theorem ϑP:OpR X (binaryOp .Add) (rI0 fun i j=>.int (i+j)):=opI0 fun _ _ _ _ _ _ _ q=>add_int q
theorem ϛ7:OpR X (binaryOp .Sub) (rI0 fun i j=>.int (i-j)):=opI0 fun _ _ _ _ _ _ _ q=>sub_int q
theorem ϕu:OpR X (binaryOp .Mult) (rI CMul fun i j=>.int (i*j)):=opI fun _ _ _ _ _ _ _ hc q=>mul_int q hc.ok
theorem ϖX:OpR X (binaryOp .FloorDiv) (rI CDiv fun i j=>.int (i / j)):=opI fun i j _ _ _ _ _ hc q=>by
 have h1:(0:Int) < j:=hc.1
 have h2:j < 1073741824:=hc.2
 exact floordiv_int (by omega) (by rw[Int.fdiv_eq_ediv_of_nonneg i (by omega)];exact q) (.inl (PyProof.noPylong_small (by omega)))
theorem ϑf:OpR X (binaryOp .Mod) (rI (fun _ j=>0 < j) fun i j=>.int (i % j)):=opI fun i j _ _ _ _ _ hc q=>by
 have h1:(0:Int) < j:=hc
 exact mod_int' (by omega) (by rw[Int.fmod_eq_emod_of_nonneg i (by omega)];exact q)
theorem ϛ9:OpR X (binaryOp .RShift) (rI (fun _ j=>0≤j) fun i j=>.int (i / 2 ^ j.toNat)):=opI fun i j _ _ _ _ _ hc q=>
 rshift_int hc (by rw[Int.fdiv_eq_ediv_of_nonneg i (ϟL _)];exact q)
end
def scal:V→V→Bool
 |.non,.non=>true|.non,.int _=>true|.int _,.non=>true|.non,.bl _=>true|.bl _,.non=>true|.non,.str _=>true|.str _,.non=>true
 |.int _,.int _=>true|.bl _,.bl _=>true|.str _,.str _=>true|.byt _,.byt _=>true
 |.int _,.str _=>true|.str _,.int _=>true|.bl _,.str _=>true|.str _,.bl _=>true
 |_,_=>false
def rEq:R2:=fun x y H Q=>scal x y=true∧Q (.bl (decide (x=y))) H
def rNe:R2:=fun x y H Q=>scal x y=true∧Q (.bl (!decide (x=y))) H
theorem ϝg {i j:Int}:decide (V.int i=V.int j)=(i == j):=by
 rw[Bool.eq_iff_iff]
 simp
theorem ϛ0 {i j:Bool}:decide (V.bl i=V.bl j)=(i == j):=by
 rw[Bool.eq_iff_iff]
 simp
theorem ϝt {i j:Str}:decide (V.str i=V.str j)=(i == j):=by
 rw[Bool.eq_iff_iff]
 simp
theorem ϝU {i j:Array UInt8}:decide (V.byt i=V.byt j)=(i.toList == j.toList):=by
 rw[Bool.eq_iff_iff]
 cases i
 cases j
 simp
section
variable {X:Cx}{a b c:Expr}{ta tb tc:TE}{pos:Pos}
theorem ϖY {pins:List (Addr×Obj)}{σ:St}{H:Hp}{s:Shared}{Q:VK}{k k':Bool} (I:Inv X pins σ H s) (q:Q (.bl k) H) (e:k=k'):EP X pins σ Q (.bool k') s:=by
 subst e
 exact⟨.bl k,H,I,rfl,q⟩
theorem ϰ4:OpR X (compareOp .Eq) rEq:=by
 intro pins s σ H x y v u Q I rx ry h
 obtain⟨hs,q⟩:=h
 cases x with
 |non=>
  cases rx
  cases y with
  |non=>cases ry;exact PySem.EqNone.eq_none_none (ϖY I q (by simp))
  |bl j=>cases ry;exact PySem.EqNone.eq_none_bool (ϖY I q (by simp))
  |int j=>obtain⟨t',rfl⟩:=ry;exact PySem.EqNone.eq_none_int (ϖY I q (by simp))
  |str j=>obtain⟨t',rfl⟩:=ry;exact PySem.EqNone.eq_none_str (ϖY I q (by simp))
  |_=>exact absurd (show false=true from hs) Bool.false_ne_true
 |bl i=>
  cases rx
  cases y with
  |non=>cases ry;exact PySem.EqNone.eq_bool_none (ϖY I q (by simp))
  |bl j=>cases ry;exact eq_bool (ϖY I q ϛ0)
  |str j=>obtain⟨t',rfl⟩:=ry;exact PySem.EqMixed.eq_bool_str (ϖY I q (by simp))
  |_=>exact absurd (show false=true from hs) Bool.false_ne_true
 |int i=>
  obtain⟨t,rfl⟩:=rx
  cases y with
  |non=>cases ry;exact PySem.EqNone.eq_int_none (ϖY I q (by simp))
  |int j=>obtain⟨t',rfl⟩:=ry;exact eq_int (ϖY I q ϝg)
  |str j=>obtain⟨t',rfl⟩:=ry;exact PySem.EqMixed.eq_int_str (ϖY I q (by simp))
  |_=>exact absurd (show false=true from hs) Bool.false_ne_true
 |str i=>
  obtain⟨t,rfl⟩:=rx
  cases y with
  |non=>cases ry;exact PySem.EqNone.eq_str_none (ϖY I q (by simp))
  |bl j=>cases ry;exact PySem.EqMixed.eq_str_bool (ϖY I q (by simp))
  |int j=>obtain⟨t',rfl⟩:=ry;exact PySem.EqMixed.eq_str_int (ϖY I q (by simp))
  |str j=>obtain⟨t',rfl⟩:=ry;exact eq_str (ϖY I q ϝt)
  |_=>exact absurd (show false=true from hs) Bool.false_ne_true
 |byt i=>
  obtain⟨t,rfl⟩:=rx
  cases y with
  |byt j=>obtain⟨t',rfl⟩:=ry;exact PySem.W.eq_bytes (ϖY I q ϝU)
  |_=>exact absurd (show false=true from hs) Bool.false_ne_true
 |_=>cases y<;>exact absurd (show false=true from hs) Bool.false_ne_true
theorem ϛL:OpR X (compareOp .NotEq) rNe:=by
 intro pins s σ H x y v u Q I rx ry h
 obtain⟨hs,q⟩:=h
 cases x with
 |non=>
  cases rx
  cases y with
  |non=>cases ry;exact PySem.EqNone.ne_none_none (ϖY I q (by simp))
  |bl j=>cases ry;exact PySem.EqNone.ne_none_bool (ϖY I q (by simp))
  |int j=>obtain⟨t',rfl⟩:=ry;exact PySem.EqNone.ne_none_int (ϖY I q (by simp))
  |str j=>obtain⟨t',rfl⟩:=ry;exact PySem.EqNone.ne_none_str (ϖY I q (by simp))
  |_=>exact absurd (show false=true from hs) Bool.false_ne_true
 |bl i=>
  cases rx
  cases y with
  |non=>cases ry;exact PySem.EqNone.ne_bool_none (ϖY I q (by simp))
  |bl j=>cases ry;exact ne_bool (ϖY I q (congrArg not ϛ0))
  |str j=>obtain⟨t',rfl⟩:=ry;exact PySem.EqMixed.ne_bool_str (ϖY I q (by simp))
  |_=>exact absurd (show false=true from hs) Bool.false_ne_true
 |int i=>
  obtain⟨t,rfl⟩:=rx
  cases y with
  |non=>cases ry;exact PySem.EqNone.ne_int_none (ϖY I q (by simp))
  |int j=>obtain⟨t',rfl⟩:=ry;exact ne_int (ϖY I q (congrArg not ϝg))
  |str j=>obtain⟨t',rfl⟩:=ry;exact PySem.EqMixed.ne_int_str (ϖY I q (by simp))
  |_=>exact absurd (show false=true from hs) Bool.false_ne_true
 |str i=>
  obtain⟨t,rfl⟩:=rx
  cases y with
  |non=>cases ry;exact PySem.EqNone.ne_str_none (ϖY I q (by simp))
  |bl j=>cases ry;exact PySem.EqMixed.ne_str_bool (ϖY I q (by simp))
  |int j=>obtain⟨t',rfl⟩:=ry;exact PySem.EqMixed.ne_str_int (ϖY I q (by simp))
  |str j=>obtain⟨t',rfl⟩:=ry;exact ne_str (ϖY I q (congrArg not ϝt))
  |_=>exact absurd (show false=true from hs) Bool.false_ne_true
 |byt i=>
  obtain⟨t,rfl⟩:=rx
  cases y with
  |byt j=>obtain⟨t',rfl⟩:=ry;exact PySem.W.ne_bytes (ϖY I q (congrArg not ϝU))
  |_=>exact absurd (show false=true from hs) Bool.false_ne_true
 |_=>cases y<;>exact absurd (show false=true from hs) Bool.false_ne_true
theorem op_lt:OpR X (compareOp .Lt) (rI0 fun i j=>.bl (decide (i < j))):=opB0 fun _ _ _ _ _ _ _ q=>lt_int q
theorem ϵl:OpR X (compareOp .Gt) (rI0 fun i j=>.bl (decide (j < i))):=opB0 fun _ _ _ _ _ _ _ q=>gt_int q
theorem op_ge:OpR X (compareOp .GtE) (rI0 fun i j=>.bl (decide (j≤i))):=opB0 fun _ _ _ _ _ _ _ q=>ge_int q
theorem op_isN:OpR X (compareOp .Is) (fun x y H Q=>y=.non∧Q (.bl (decide (x=.non))) H):=by
 intro pins s σ H x y v u Q I rx ry h
 obtain⟨rfl,q⟩:=h
 cases ry
 refine is_none_gen (ϖY I q ?_)
 cases x<;>first
  |(cases rx;rfl)
  |(obtain⟨t,rfl⟩:=rx;rfl)
theorem ϡr:OpR X (compareOp .IsNot) (fun x y H Q=>y=.non∧Q (.bl (!decide (x=.non))) H):=by
 intro pins s σ H x y v u Q I rx ry h
 obtain⟨rfl,q⟩:=h
 cases ry
 refine isnot_none_gen (ϖY I q ?_)
 cases x<;>first
  |(cases rx;rfl)
  |(obtain⟨t,rfl⟩:=rx;rfl)
theorem ϖH (b:Expr) {op:CmpOp} (h:op≠.In:=by decide) (h2:op≠.NotIn:=by decide):behindInMarks op b=false:=by
 have e1:(op == CmpOp.In)=false:=by cases op<;>first|rfl|exact absurd rfl h
 have e2:(op == CmpOp.NotIn)=false:=by cases op<;>first|rfl|exact absurd rfl h2
 cases b<;>simp[behindInMarks,e1,e2]
theorem ϵS {op:CmpOp}{r:R2} (ho:OpR X (compareOp op) r) (ha:PE X a ta) (hb:PE X b tb) (hm:behindInMarks op b=false):PE X (.Compare a [op] [b] pos) (tOp r ta tb):=by
 intro pins s σ H Q I h
 exact wpAny_Compare1 (binT ha hb I h fun v u s2 x y H2 I2 rx ry q=>ho pins s2 σ H2 x y v u Q I2 rx ry q) hm
def tTest (t:TE):TT:=fun σ H Q=>t σ H fun x H'=>∃k,x=.bl k∧Q k H'
theorem ϖx {op:CmpOp}{r:R2} (ho:OpR X (compareOp op) r) (ha:PE X a ta) (hb:PE X b tb) (hm:behindInMarks op b=false):PT X (.Compare a [op] [b] pos) (tTest (tOp r ta tb)):=by
 intro pins s σ H Q I h
 refine wpAny_isTrue_Compare1 (thn (ha pins s σ H _ I h) fun v s1 ⟨x,H1,I1,r1,q1⟩=>thn (hb pins s1 σ H1 _ I1 q1) fun u s2 ⟨y,H2,I2,r2,q2⟩=>
  thn (ho pins s2 σ H2 x y v u _ I2 r1 r2 q2) fun c s3 ⟨z,H3,I3,r3,k,e,q3⟩=>?_) hm
 subst e
 cases r3
 exact wpAny_truthy_bool ⟨H3,I3,q3⟩
theorem ϲ7:(sizeLine:Nat) < 2 ^ 63:=by rw[sizeLine_eq];decide
theorem ϑY:OpR X (binaryOp .Add) (fun x y H Q=>∃i j,x=.str i∧y=.str j∧i.length+j.length≤sizeLine∧Q (.str (i++j)) H):=by
 intro pins s σ H x y v u Q I rx ry h
 obtain⟨i,j,rfl,rfl,hz,q⟩:=h
 obtain⟨t,rfl⟩:=rx
 obtain⟨t',rfl⟩:=ry
 exact add_str (fun t' tk=>⟨.str (i++j),H,I.tok _,⟨_,rfl⟩,q⟩) hz
theorem ϱs {x:V}{us:List Value} (r:Vals [x] us):∃u,us=[u]∧RelV x u:=by
 cases r with
 |cons r1 r2=>cases r2;exact⟨_,rfl,r1⟩
theorem ϟy {x y:V}{us:List Value} (r:Vals [x,y] us):∃u w',us=[u,w']∧RelV x u∧RelV y w':=by
 cases r with
 |cons r1 r2=>
  cases r2 with
  |cons r3 r4=>cases r4;exact⟨_,_,rfl,r1,r3⟩
theorem ϝ5 (hc:X.calm=true):CallR X (.builtin "max") (fun xs H Q=>∃i j,xs=[.int i,.int j]∧Q (.int (if j > i then j else i)) H):=by
 intro pins s σ H xs us Q I r h
 obtain⟨i,j,rfl,q⟩:=h
 obtain⟨u,w',rfl,⟨t,rfl⟩,⟨t',rfl⟩⟩:=ϟy r
 refine max_two_ints (I.ok.hd hc) fun h' tk k=>⟨_,H,I.kept k,?_,q⟩
 by_cases hj:j > i
 ·rw[if_pos hj,if_pos hj];exact⟨_,rfl⟩
 ·rw[if_neg hj,if_neg hj];exact⟨_,rfl⟩
theorem ϟ7 (hc:X.calm=true):CallR X (.builtin "min") (fun xs H Q=>∃i j,xs=[.int i,.int j]∧Q (.int (if j < i then j else i)) H):=by
 intro pins s σ H xs us Q I r h
 obtain⟨i,j,rfl,q⟩:=h
 obtain⟨u,w',rfl,⟨t,rfl⟩,⟨t',rfl⟩⟩:=ϟy r
 refine min_two_ints (I.ok.hd hc) fun h' tk k=>⟨_,H,I.kept k,?_,q⟩
 by_cases hj:j < i
 ·rw[if_pos hj,if_pos hj];exact⟨_,rfl⟩
 ·rw[if_neg hj,if_neg hj];exact⟨_,rfl⟩
end
end L2
namespace L2
open PySem PySem.Spec PyProof.Rows
structure ObjM (h:Heap) (x dx C:Addr) (mA:Str→Option Value):Prop where
 obj:h.get? x=some (PySem.W.instObj C dx)
 ns:h.Ns1 dx mA
 ne:dx≠x
theorem ϝW {h:Heap}{dx:Addr}{mA:Str→Option Value} (n:h.Ns1 dx mA):∃od,h.get? dx=some od∧∀name,PySem.W.lookIn name od=some (mA name):=by
 obtain⟨o,es,ep,ho,hd,hk,_,hm⟩:=n
 refine⟨o,ho,fun name=>?_⟩
 have e:=hm name
 unfold nsFind findBy at e
 rw[← Array.find?_toList] at e
 unfold PySem.W.lookIn
 rw[hd]
 dsimp only
 split
 ·rename_i y q
  rw[q] at e
  exact congrArg some e
 ·rename_i q
  rw[q] at e
  have a:es.toList.any (·.refKey)=false:=by
   rw[List.any_eq_false]
   intro y hy
   obtain⟨z,t,hkey⟩:=hk y (Array.mem_toList_iff.mp hy)
   simp[DictEntry.refKey,hkey]
  have a':¬ es.toList.any (·.refKey)=true:=by rw[a];exact Bool.false_ne_true
  rw[if_neg a']
  exact congrArg some e
theorem ObjM.look {h:Heap}{x dx C:Addr}{mA:Str→Option Value} (I:ObjM h x dx C mA):∃od,PySem.W.InstAt h x (PySem.W.instObj C dx) C (some od)∧∀name,PySem.W.lookIn name od=some (mA name):=
 let ⟨od,ho,hl⟩:=ϝW I.ns
 ⟨od,⟨I.obj,rfl,rfl,ho⟩,hl⟩
section
variable {prog:Program}{w:World}{A:Around}{E:Value→Shared→Prop}{s:Shared}{K:PySem.W.Frag}{x dx C f:Addr}{mA:Str→Option Value}{name:Str}{v:Value}
end
def putF (f:Str) (v:V):List (Str×V)→List (Str×V)
 |[]=>[(f,v)]
 |(g,x)::r=>if g=f then (g,v)::r else (g,x)::putF f v r
theorem RelO.some_of {v:V}{o:Option Value} (r:RelO (some v) o):∃u,o=some u∧RelV v u:=by
 cases o with
 |none=>exact(show False from r).elim
 |some u=>exact⟨u,rfl,r⟩
section
variable {P:Program}{w:World}{H H':Hp}{h h':Heap}{a C dx:Addr}{fs fs':List (Str×V)}
theorem ins_get (hok:HOk P w H h) (e:H a=some (.ins C dx fs)):∃mA,ObjM h a dx C mA∧(∀ f,RelO (fs.lookup f) (mA f))∧PySem.Within mA (fs.map (·.1))∧fs.length≤1000∧H dx=some (.own a):=by
 obtain⟨d,z,ne,ob,mA,n,r,q⟩:=(show ObjOk P w H h a (.ins C dx fs) from hok a _ e)
 exact⟨mA,⟨ob,n,ne⟩,r,q,z,d⟩
end
structure Cls (K:PySem.W.Frag) (C:Addr):Prop where
 pg:PySem.W.plainGet K C Str.empty=true
 hd:PySem.W.hasDictIn K C=true
 po:PySem.W.plainOver K C=true
 sa:PySem.W.findIn K (.ref C) "__setattr__"=some (some (.builtin "object.__setattr__"))
theorem Cls.get {K:PySem.W.Frag}{C:Addr} (c:Cls K C) (f:Str):PySem.W.plainGet K C f=true:=c.pg
section
variable {X:Cx}{pins:List (Addr×Obj)}{σ:St}{H:Hp}{s:Shared}{a C dx:Addr}{fs:List (Str×V)}{f:Str}{v:V}{A:Around}{E:Value→Shared→Prop}
end
section
variable {X:Cx}{o e value:Expr}{f:Str}{pos pos' tpos:Pos}{ta tv:TE}
end
section
variable {X:Cx}{pins:List (Addr×Obj)}{σ:St}{H:Hp}{s:Shared}{A:Around}{E:Value→Shared→Prop}{Q:Value→Shared→Prop}{c:Value}{b:Bool}
inductive TyOf (K:PySem.W.Frag) (H:Hp):V→Value→Prop where
 |non:TyOf K H .non (.type "NoneType")
 |bl (x:Bool):TyOf K H (.bl x) (.type "bool")
 |int (i:Int):TyOf K H (.int i) (.type "int")
 |str (x:Str):TyOf K H (.str x) (.type "str")
 |flt (x:UInt64):TyOf K H (.flt x) (.type "float")
 |lst {a:Addr}{xs:List V} (e:H a=some (.lst xs)):TyOf K H (.ref a) (.type "list")
 |frz {a:Addr}{o:Obj}{xs:List V} (e:H a=some (.frz o (.lst xs))):TyOf K H (.ref a) (.type "list")
 |tup {a:Addr}{xs:List V} (e:H a=some (.tup xs)):TyOf K H (.ref a) (.type "tuple")
 |dK {a:Addr}{kvs:List (Key×V)} (e:H a=some (.dK kvs)):TyOf K H (.ref a) (.type "dict")
 |dT {a:Addr}{kvs:List (List Key×V)} (e:H a=some (.dT kvs)):TyOf K H (.ref a) (.type "dict")
 |ins {a C dx:Addr}{fs:List (Str×V)} (e:H a=some (.ins C dx fs)) (cl:Cls K C) (ha:PySem.W.findIn K (.ref C) "__class__"=some (some (.builtin "object.__class__")))
   (hn:PySem.W.specialIn K (.builtin "object.__class__") "__get__"=some (some (.builtin "getset_descriptor.__get__"))) (htk:PySem.W.takesIn K (.builtin "object.__class__")=some true)
   (hm:PySem.W.mroIn K C (.type "object")=some true):TyOf K H (.ref a) (.ref C)
theorem ϕ9 {x:V}{u t:Value} (I:Inv X pins σ H s) (rx:RelV x u) (ty:TyOf X.K H x t) (e:PySem.W.kitOne X.K t c=some b) (h:∀tk,Q (.bool b) { s with toks:=tk }) :
  wpAny (model X.prog X.w) A (call (.builtin "isinstance") [u,c]) Q E s:=by
 cases ty with
 |non=>cases (show u=Value.none from rx);exact PySem.W.kia_one PySem.W.kitx_none I.kIn True.intro e (fun z=>nomatch z) h
 |bl y=>cases (show u=Value.bool y from rx);exact PySem.W.kia_one PySem.W.kitx_bool I.kIn True.intro e (fun z=>nomatch z) h
 |int i=>obtain⟨t,q⟩:=(show ∃t,u=Value.int i t from rx);cases q;exact PySem.W.kia_one PySem.W.kitx_int I.kIn True.intro e (fun z=>nomatch z) h
 |str y=>obtain⟨t,q⟩:=(show ∃t,u=Value.str y t from rx);cases q;exact PySem.W.kia_one PySem.W.kitx_str I.kIn True.intro e (fun z=>nomatch z) h
 |flt y=>obtain⟨t,q⟩:=(show ∃t,u=Value.float y t from rx);cases q;exact PySem.W.kia_one PySem.W.kitx_float I.kIn True.intro e (fun z=>nomatch z) h
 |@lst a xs ea=>
  cases (show u=Value.ref a from rx)
  obtain⟨_,_,n,_,h1⟩:=(show ObjOk X.prog X.w H s.heap a (.lst xs) from I.hok a _ ea)
  exact PySem.W.kia_one PySem.W.kitx_list I.kIn ⟨_,h1,rfl⟩ e (fun z=>nomatch z) h
 |@frz a ob xs ea=>
  cases (show u=Value.ref a from rx)
  obtain⟨_,_,_,n,_,h1⟩:=(show ObjOk X.prog X.w H s.heap a (.frz ob (.lst xs)) from I.hok a _ ea)
  exact PySem.W.kia_one PySem.W.kitx_list I.kIn ⟨_,h1,rfl⟩ e (fun z=>nomatch z) h
 |@tup a xs ea=>
  cases (show u=Value.ref a from rx)
  obtain⟨_,_,_,p⟩:=(show ObjOk X.prog X.w H s.heap a (.tup xs) from I.hok a _ ea)
  obtain⟨o,h1,h2,_⟩:=p
  exact PySem.W.kia_one PySem.W.kitx_tuple I.kIn ⟨o,h1,h2⟩ e (fun z=>nomatch z) h
 |@dK a kvs ea=>
  cases (show u=Value.ref a from rx)
  obtain⟨_,_,vs,_,p⟩:=(show ObjOk X.prog X.w H s.heap a (.dK kvs) from I.hok a _ ea)
  obtain⟨o,es,ep,h1,h2,_⟩:=p
  exact PySem.W.kia_one PySem.W.kitx_dict I.kIn ⟨o,h1,h2.1⟩ e (fun z=>nomatch z) h
 |@dT a kvs ea=>
  cases (show u=Value.ref a from rx)
  obtain⟨_,_,xs,_,o,es,ep,h1,h2,_⟩:=(show ObjOk X.prog X.w H s.heap a (.dT kvs) from I.hok a _ ea)
  exact PySem.W.kia_one PySem.W.kitx_dict I.kIn ⟨o,h1,h2.1⟩ e (fun z=>nomatch z) h
 |@ins a C dx fs ea cl ha hn htk hm=>
  cases (show u=Value.ref a from rx)
  obtain⟨mA,O,_⟩:=ins_get I.hok ea
  obtain⟨od,J,_⟩:=O.look
  exact PySem.W.kia_one (PySem.W.kitx_own (cl.get _) cl.hd ha hn htk hm) I.kIn J e (fun z=>nomatch z) h
end
end L2
namespace L2
open PySem PySem.Spec PyProof.Rows
structure Room (k:Nat) (A:Around):Prop where
 hd:A.handled=none
 dp:A.depth+3*k+5 < recursionLimit
 un:A.units+16*k+200 < cLine
theorem Room.mono {j k:Nat}{A:Around} (r:Room k A) (h:j≤k):Room j A:=⟨r.hd,by have:=r.dp;omega,by have:=r.un;omega⟩
theorem Room.deeper {k:Nat}{A:Around} (r:Room (k+1) A) (env:Env):Room k (A.deeper env):=
 ⟨r.hd,by have:=r.dp;show A.depth+1+3*k+5 < _;omega,by have:=r.un;show A.units+3+16*k+200 < _;omega⟩
theorem Room.depth {k:Nat}{A:Around} (r:Room k A):A.depth < recursionLimit:=by have:=r.dp;omega
theorem Room.units {k:Nat}{A:Around} (r:Room k A):A.units+64 < cLine:=by have:=r.un;omega
def tNil:TA:=fun _ H Q=>Q [] H
def tCons (ta:TE) (tr:TA):TA:=fun σ H Q=>ta σ H fun x H1=>tr σ H1 fun xs H2=>Q (x::xs) H2
section
variable {X:Cx}{e:Expr}{es:List Expr}{te:TE}{t:TA}{pos:Pos}
theorem ϖf:PA X [] tNil:=fun _ _ _ _ H Q I h=>Calls.spliced_nil ⟨[],H,I,.nil,h⟩
theorem ϖa (ha:PE X e te) (hr:PA X es t) (hs:starEach (e::es) X.env=(false,eval e X.env)::starEach es X.env:=by rfl):PA X (e::es) (tCons te t):=by
 intro pos pins s σ H Q I h
 rw[hs]
 show wpAny _ _ (spliced ((false,eval e X.env)::backTo pos (starEach es X.env))) _ _ s
 refine Calls.spliced_cons (thn (ha pins s σ H _ I h) fun u s1 ⟨x,H1,I1,r1,q1⟩=>?_)
 exact thn (hr pos pins s1 σ H1 _ I1 q1) fun us s2 ⟨xs,H2,I2,r2,q2⟩=>⟨x::xs,H2,I2,.cons r1 r2,q2⟩
def tTup (t:TA):TE:=fun σ H Q=>t σ H fun xs H1=>xs.length≤sizeLine∧∀p,H1 p=none→Q (.ref p) (upd H1 p (.tup xs))
def tLst (t:TA):TE:=fun σ H Q=>t σ H fun xs H1=>xs.length≤sizeLine∧∀p,H1 p=none→Q (.ref p) (upd H1 p (.lst xs))
theorem ϑl {x1} (h:PA X es t):PE X (.Tuple es x1 pos) (tTup t):=by
 intro pins s σ H Q I hq
 refine wpAny_Tuple_spliced (thn (h pos pins s σ H _ I hq) fun us s1 ⟨xs,H1,I1,r,z,q⟩=>⟨by rw[← r.length];exact z,?_⟩)
 have hf:H1 s1.heap.objs.size=none:=I1.hok.fresh (Nat.le_refl _)
 refine⟨.ref s1.heap.objs.size,upd H1 s1.heap.objs.size (.tup xs),I1.laid (t':=s1.toks) (fun b u e=>Heap.get?_push_of_some _ e) (Nat.le_refl _) ?_,rfl,q _ hf⟩
 exact⟨z,us,r,⟨_,Heap.get?_push_size _ rfl,rfl,_,rfl⟩⟩
theorem ϖV (h:PA X es t):PE X (.List es pos) (tLst t):=by
 intro pins s σ H Q I hq
 refine wpAny_List_spliced (thn (h pos pins s σ H _ I hq) fun us s1 ⟨xs,H1,I1,r,z,q⟩=>⟨by rw[← r.length];exact z,?_⟩)
 have hf:H1 s1.heap.objs.size=none:=I1.hok.fresh (Nat.le_refl _)
 refine⟨.ref s1.heap.objs.size,upd H1 s1.heap.objs.size (.lst xs),I1.laid (t':=s1.toks) (fun b u e=>Heap.get?_push_of_some _ e) (Nat.le_refl _) ?_,rfl,q _ hf⟩
 exact⟨z,us,0,r,Heap.get?_push_size _ rfl⟩
end
abbrev Sp:=List V→Hp→VK→XK→Prop
abbrev CXT:=List Env→Hp→Shared→XK→Value→Shared→Prop
structure Env0 (P:Program) (w:World) (K:PySem.W.Frag) (mg:Str→Option Value) (base:Heap) (A:Around) (outer:List Env) (s:Shared) (H:Hp):Prop where
 frames:A.frames=some outer
 mod:Mod K mg base
 bs:∀b o,base.get? b=some o→s.heap.get? b=some o∧H b=none
 bsz:base.objs.size≤s.heap.objs.size
 funs:s.heap.FunFrames base outer
 frf:∀b∈frs outer,H b=none
 hok:HOk P w H s.heap
 bare:AllBare s.gens
def CE (outer:List Env) (P:Program) (w:World) (H:Hp) (s:Shared) (Q:VK) (u:Value) (s':Shared):Prop:=
 ∃v H',s'.os=s.os∧AllBare s'.gens∧Un (frs outer) [] H H' s.heap s'.heap∧HOk P w H' s'.heap∧RelV v u∧Q v H'
def CR (CX:CXT) (outer:List Env) (P:Program) (w:World) (H:Hp) (s:Shared) (Q:VK) (E:XK) (r:Result) (s':Shared):Prop:=
 match r with
 |.ok (.ret u)=>CE outer P w H s Q u s'
 |.ok _=>False
 |.error e=>CX outer H s E e s'
structure FnOk (P:Program) (w:World) (K:PySem.W.Frag) (mg:Str→Option Value) (base:Heap) (CX:CXT) (k:Nat) (f:Addr) (fd:FuncData) (ps:List Str) (sp:Sp):Prop where
 len:∀vs H Q E,sp vs H Q E→vs.length=ps.length
 run:∀(A:Around) (outer:List Env) (s:Shared) (H:Hp) (args:Args) (us:List Value) (vs:List V) (Q:VK) (E:XK),Room k A→Env0 P w K mg base A outer s H→BindsTo s fd args (ps.zip us)→Vals vs us→sp vs H Q E →
  codeAny (model P w) A (.call (.ref f) args) (CR CX outer P w H s Q E) s
section
variable {X:Cx}{pins:List (Addr×Obj)}{σ:St}{H:Hp}{s s':Shared}
theorem Inv.env0 (I:Inv X pins σ H s):Env0 X.prog X.w X.K X.mg X.base X.A X.stack s H:=
 ⟨I.ok.frames,I.ok.mod,I.bs,Nat.le_trans I.ok.bsz I.sz,I.stack,I.stkFree,I.hok,I.bare⟩
theorem Inv.after {Q:VK}{u:Value} (I:Inv X pins σ H s) (h:CE X.stack X.prog X.w H s Q u s'):EP X pins σ Q u s':=by
 obtain⟨v,H',os,bare,un,hok,r,q⟩:=h
 obtain⟨hh,g,d,t,os'⟩:=s'
 obtain rfl:os'=s.os:=os
 exact⟨v,H',I.call (h':=hh) (g':=g) (d':=d) (t':=t) (ch:=[]) un hok bare (fun b z=>absurd z (by simp)),r,q⟩
end
def Binds (K:PySem.W.Frag) (fd:FuncData) (ps:List Str) (ds:List Value):Prop:=
 ∀(s:Shared) (us:List Value),K.In s.heap→(us++ds).length=ps.length→BindsTo s fd ⟨us,[]⟩ (ps.zip (us++ds))
theorem Binds.all {K:PySem.W.Frag}{fd:FuncData}{ps:List Str} (h:∀us:List Value,us.length=ps.length→bindArgs fd ⟨us,[]⟩=pure (ps.zip us)):Binds K fd ps []:=fun s us _ hl=>by
 rw[List.append_nil] at hl⊢
 exact .of_eq (h us hl)
def ϲF (CX:CXT) (X:Cx) (E:XK):Prop:=∀(pins:List (Addr×Obj)) (σ:St) (H:Hp) (s:Shared) (e:Value) (s':Shared),Inv X pins σ H s→CX X.stack H s E e s'→X.xe e s'
section
variable {X:Cx}{CX:CXT}{k:Nat}{f C:Addr}{fd:FuncData}{ps:List Str}{sp:Sp}{dvs:List V}{ds:List Value}{E:XK}{x m:Str}{p pos apos:Pos}{e o:Expr}{es:List Expr}{ta:TE}{t:TA}
theorem run_fn {pins:List (Addr×Obj)}{σ:St}{H:Hp}{s:Shared}{Q:VK}{us:List Value}{vs:List V} (F:FnOk X.prog X.w X.K X.mg X.base CX k f fd ps sp) (hr:Room k X.A) (hb:Binds X.K fd ps ds) (hd:Vals dvs ds) (hx:ϲF CX X E)
  (I:Inv X pins σ H s) (r:Vals vs us) (h:sp (vs++dvs) H Q E):wpAny (model X.prog X.w) X.A (call (.ref f) us) (EP X pins σ Q) X.xe s:=by
 have r2:Vals (vs++dvs) (us++ds):=r.append hd
 have hl:(us++ds).length=ps.length:=by rw[← r2.length];exact F.len _ _ _ _ h
 refine wpAny_call (codeAny_mono (F.run X.A X.stack s H ⟨us,[]⟩ (us++ds) (vs++dvs) Q E hr I.env0 (hb s us I.kIn hl) r2 h) fun r s' hq=>?_)
 cases r with
 |error e=>exact hx pins σ H s e s' I hq
 |ok fl=>
  cases fl with
  |ret u=>exact I.after hq
  |next=>exact False.elim hq
  |brk=>exact False.elim hq
  |cont=>exact False.elim hq
structure Mk (K:PySem.W.Frag) (C f:Addr):Prop where
 makes:PySem.W.makesIn K C=true
 init:PySem.W.findIn K (.ref C) "__init__"=some (some (.ref f))
 fn:PySem.W.isFn K (.ref f)=true
 kp:PySem.W.keepIn K (.ref C)=true
end
section
variable {X:Cx}{CX:CXT}{k:Nat}{f C:Addr}{fd:FuncData}{ps ks:List Str}{sp:Sp}{E:XK}{x m:Str}{p pos apos kpos:Pos}{e o:Expr}{es:List Expr}{kws:List Keyword}{te ta:TE}{t tk:TA}{nm:Option Str}
variable {g:List Value→List Value→List Value}{gV:List V→List V→List V}
end
structure FnScope (N P:List Str) (sc:Scope):Prop where
 kind:sc.kind=.function
 co:sc.isCoroutine=false
 gen:sc.isGenerator=false
 nd:N.Nodup
 pre:N.take P.length=P
 par:∀x∈P,sc.names.lookup x=some .local∨sc.names.lookup x=some .cell
 nofree:∀y∈sc.names,y.2≠.free
theorem ϲj {kindOf:Str→Option NameKind}{x:Str}:∀{binds:List (Str×Value)}{m:Str→Option Value},(∀ v,(x,v)∉binds)→bindL kindOf binds m x=m x
 |[],_,_=>rfl
 |(n,v)::r,m,h=>by
  unfold bindL
  rw[ϲj fun w hw=>h w (List.mem_cons_of_mem _ hw)]
  split
  ·have:x≠n:=by rintro rfl;exact h v List.mem_cons_self
   simp[this]
  ·rfl
theorem ϲ0 {kindOf:Str→Option NameKind}{x:Str}:∀{binds:List (Str×Value)}{m:Str→Option Value},(∀ v,(x,v)∉binds)→bindC kindOf binds m x=m x
 |[],_,_=>rfl
 |(n,v)::r,m,h=>by
  unfold bindC
  rw[ϲ0 fun w hw=>h w (List.mem_cons_of_mem _ hw)]
  split
  ·rfl
  ·have:x≠n:=by rintro rfl;exact h v List.mem_cons_self
   simp[this]
theorem ϲX {kindOf:Str→Option NameKind}{x:Str}{v:Value}:∀{P:List Str}{vs:List Value}{i:Nat}{m:Str→Option Value},P.Nodup→P[i]?=some x→vs[i]?=some v→kindOf x=some .local →
  bindL kindOf (P.zip vs) m x=some v
 |[],_,_,_,_,h,_,_=>by simp at h
 |_::_,[],_,_,_,_,h,_=>by simp at h
 |p::P,w::vs,0,m,nd,h1,h2,hk=>by
  simp at h1 h2;subst h1;subst h2
  show bindL kindOf ((p,w)::P.zip vs) m p=_
  unfold bindL
  rw[ϲj fun v hv=>(List.nodup_cons.mp nd).1 (List.of_mem_zip hv).1,if_pos hk]
  simp
 |p::P,w::vs,i+1,m,nd,h1,h2,hk=>by
  show bindL kindOf ((p,w)::P.zip vs) m x=_
  unfold bindL
  exact ϲX (i:=i) (List.nodup_cons.mp nd).2 (by simpa using h1) (by simpa using h2) hk
theorem ϲ5 {kindOf:Str→Option NameKind}{x:Str}{v:Value}:∀{P:List Str}{vs:List Value}{i:Nat}{m:Str→Option Value},P.Nodup→P[i]?=some x→vs[i]?=some v→kindOf x≠some .local →
  bindC kindOf (P.zip vs) m x=some v
 |[],_,_,_,_,h,_,_=>by simp at h
 |_::_,[],_,_,_,_,h,_=>by simp at h
 |p::P,w::vs,0,m,nd,h1,h2,hk=>by
  simp at h1 h2;subst h1;subst h2
  show bindC kindOf ((p,w)::P.zip vs) m p=_
  unfold bindC
  rw[ϲ0 fun v hv=>(List.nodup_cons.mp nd).1 (List.of_mem_zip hv).1,if_neg hk]
  simp
 |p::P,w::vs,i+1,m,nd,h1,h2,hk=>by
  show bindC kindOf ((p,w)::P.zip vs) m x=_
  unfold bindC
  exact ϲ5 (i:=i) (List.nodup_cons.mp nd).2 (by simpa using h1) (by simpa using h2) hk
def start (N:List Str) (vs:List V):St:=vs.map some++List.replicate (N.length-vs.length) none
def cxOf (CX:CXT) (P:Program) (w:World) (K:PySem.W.Frag) (mg:Str→Option Value) (base:Heap) (N:List Str) (qual:Str) (scope:Scope) (f:Addr) (cd:Value) (A:Around) (outer:List Env) (s:Shared) (H:Hp) (E:XK):Cx where
 prog:=P
 w:=w
 K:=K
 mg:=mg
 base:=base
 A:=A.deeper (envOfC qual scope s.heap.objs.size f cd)
 N:=N
 s₀:=s
 H₀:=H
 env:=envOfC qual scope s.heap.objs.size f cd
 outer:=outer
 stack:=envOfC qual scope s.heap.objs.size f cd::outer
 ex:=[]
 calm:=true
 fn:=fun _=>true
 pn:=[]
 xe:=fun e s'=>wpAny (model P w) (A.deeper (envOfC qual scope s.heap.objs.size f cd)) (leaving (envOfC qual scope s.heap.objs.size f cd) e) (fun _ s''=>CX outer H s E e s'') (fun e' s''=>CX outer H s E e' s'') s'
theorem ϟf {sc:Scope}{n:Nat}{x:Str} (h:sc.names.lookup x=some .cell):∃c,(cellsFrom n sc.names []).lookup x=some c:=by
 have q:=PySem.W.cellsFrom_some sc.names n [] (.inl h)
 exact Option.isSome_iff_exists.mp q
theorem ϝI {CX:CXT}{P:Program}{w:World}{K:PySem.W.Frag}{mg:Str→Option Value}{base:Heap}{N ps:List Str}{qual:Str}{scope:Scope}{f:Addr}{cd:Value}{A:Around}{outer:List Env}{s s1:Shared}{H:Hp}{E:XK}{us:List Value}{vs:List V}
  (S:FnScope N ps scope) (hd:A.handled=none) (e0:Env0 P w K mg base A outer s H) (hl:vs.length=ps.length) (r:Vals vs us)
  (x:InCallC s s.heap.objs.size (bindL (envOfC qual scope s.heap.objs.size f cd).kindOf (ps.zip us) fun _=>none) (cellsFrom (s.heap.objs.size+1) scope.names []) (bindC (envOfC qual scope s.heap.objs.size f cd).kindOf (ps.zip us) fun _=>none) s1) :
  Inv (cxOf CX P w K mg base N qual scope f cd A outer s H E) [] (start N vs) H s1:=by
 have hpl:ps.length≤N.length:=by have:=congrArg List.length S.pre;rw[List.length_take] at this;omega
 obtain⟨h1,tk,rfl,hk⟩:=x.done
 have noA:∀b:Addr,b∉(cxOf CX P w K mg base N qual scope f cd A outer s H E).ex:=fun b z=>absurd (show b∈([]:List Addr) from z) (by simp)
 refine⟨⟨e0.mod,S.kind,rfl,rfl,Nat.le_refl _,fun y z c h1 h2=>?_,fun y hy=>?_,fun y c _ h=>?_,fun _=>hd,Around.frames_deeper e0.frames,.inr ⟨rfl,rfl⟩,fun b z=>absurd z (noA b),e0.bs,e0.bsz,fun b _ _=>noA b,fun b z=>absurd z (noA b),e0.funs,e0.frf⟩,
  rfl,e0.bare,Un.kept hk,⟨_,x.toInCall.ns,fun i y v h1 h2 h3=>?_⟩,fun y c h=>⟨_,x.cell y c h⟩,e0.hok.fresh (Nat.le_refl _),fun y c h=>?_,fun p hp=>absurd (show p∈([]:List (Addr×Obj)) from hp) (by simp),e0.hok.kept hk,?_⟩
 ·exact name_of_addr x.apart (PySem.mem_of_lookup h1) (PySem.mem_of_lookup h2)
 ·have hy:scope.names.lookup y=some .cell∨scope.names.lookup y=some .free:=hy
  rcases hy with hy|hy
  ·exact ϟf hy
  ·exact absurd rfl (S.nofree _ (PySem.mem_of_lookup hy))
 ·exact Nat.le_of_lt (x.above y c (PySem.mem_of_lookup h))
 ·have hi:i < vs.length:=by
   unfold start at h2
   by_cases hi:i < vs.length
   ·exact hi
   ·rw[List.getElem?_append_right (by simpa using hi)] at h2
    rw[List.getElem?_replicate] at h2
    split at h2<;>cases h2
  have ha:vs[i]?=some v:=by
   unfold start at h2
   rw[List.getElem?_append_left (by simpa using hi),List.getElem?_map] at h2
   cases e:vs[i]? with
   |none=>rw[e] at h2;cases h2
   |some a=>rw[e] at h2;cases h2;rfl
  obtain⟨u,hu,rv⟩:=r.get ha
  have hp:ps[i]?=some y:=by
   rw[← S.pre,List.getElem?_take_of_lt (by omega)];exact h1
  have ndP:ps.Nodup:=by rw[← S.pre];exact S.nd.sublist (List.take_sublist _ _)
  refine⟨u,rv,?_⟩
  rcases S.par y (List.mem_of_getElem? hp) with k|k
  ·exact .inl ⟨k,ϲX ndP hp hu k⟩
  ·obtain⟨c,e⟩:=ϟf (n:=s.heap.objs.size+1) k
   refine .inr ⟨.inl k,c,e,?_⟩
   have q:=x.cell y c e
   rw[ϲ5 ndP hp hu (by show scope.names.lookup y≠_;rw[k];decide)] at q
   exact q
 ·exact e0.hok.fresh (Nat.le_of_lt (x.above y c (PySem.mem_of_lookup h)))
 ·unfold start
  show _=N.length
  rw[List.length_append,List.length_map,List.length_replicate]
  omega
theorem fn_of {CX:CXT}{P:Program}{w:World}{K:PySem.W.Frag}{mg:Str→Option Value}{base:Heap}{k:Nat}{f:Addr}{name qual:Str}{params:Arguments}{body:List Stmt}{scope:Scope}{dV kV doc pm cdv ct oc:Value}{an od:Option Addr}
  {osl:Array (Option Value)}{N ps:List Str}{sp:Sp} (lk:K.lookup f=some ⟨oc,od,.func (PySem.W.fnOf name qual params body scope dV kV doc pm an cdv ct),osl⟩) (hcd:PySem.W.codeIn K cdv qual=true) (S:FnScope N ps scope)
  (len:∀vs H Q E,sp vs H Q E→vs.length=ps.length)
  (hbody:∀(A:Around) (outer:List Env) (s:Shared) (H:Hp) (vs:List V) (Q:VK) (E:XK),Room k (A.deeper (envOfC qual scope s.heap.objs.size f cdv))→sp vs H Q E →
   ∃t,PSs (cxOf CX P w K mg base N qual scope f cdv A outer s H E) body t∧t { nx:=fun _ H'=>Q .non H',rt:=Q } (start N vs) H) :
  FnOk P w K mg base CX (k+1) f (PySem.W.fnOf name qual params body scope dV kV doc pm an cdv ct) ps sp:=by
 refine⟨len,fun A outer s H args us vs Q E hr e0 hb r hsp=>?_⟩
 have hl:=len _ _ _ _ hsp
 have KX:K.In s.heap:=e0.mod.kin.keeps fun b o e=>(e0.bs b o e).1
 have lim:s.heap.NoLimit:=e0.mod.nolimit.keeps fun b o e=>(e0.bs b o e).1
 have hkind:∀y∈ps.zip us,scope.names.lookup y.1=some .local∨(scope.names.lookup y.1=some .cell∧((cellsFrom (s.heap.objs.size+1) scope.names []).lookup y.1).isSome=true):=fun⟨n,v⟩ hy=>by
  rcases S.par n (List.of_mem_zip hy).1 with q|q
  ·exact .inl q
  ·exact .inr ⟨q,PySem.W.cellsFrom_some _ _ _ (.inl q)⟩
 refine codeAny_call_function hr.depth (KX _ _ lk) rfl S.co S.gen rfl (PySem.W.codeRec_of KX hcd) (hb _ _ _ _ ?_)
 refine wpAny_newFunctionEnv_cells S.kind hkind fun env he s1 x=>?_
 subst he
 refine⟨lim.keeps x.toInCall.keep,codeAny_func ?_⟩
 obtain⟨t,ht,hq⟩:=hbody A outer s H vs Q E (hr.deeper _) hsp
 have I:Inv (cxOf CX P w K mg base N qual scope f cdv A outer s H E) [] (start N vs) H s1:=ϝI S hr.hd e0 hl r x
 refine wpAny_mono (ht [] s1 (start N vs) H _ I hq) (fun fl s' hs=>?_) fun e s' hs=>hs
 have fin:∀{σ':St}{H':Hp}{v:V}{u:Value},Inv (cxOf CX P w K mg base N qual scope f cdv A outer s H E) [] σ' H' s'→RelV v u→Q v H'→CE outer P w H s Q u s':=
  fun {σ' H' v u} J rv q=>⟨v,H',J.os,J.bare,J.base,J.hok,rv,q⟩
 cases fl with
 |ret u=>
  obtain⟨v,σ',H',J,rv,q⟩:=hs
  exact fin J rv q
 |next=>
  obtain⟨σ',H',J,q⟩:=hs
  exact fin (v:=V.non) (u:=Value.none) J rfl q
 |brk=>
  obtain⟨_,_,_,q⟩:=hs
  exact False.elim q
 |cont=>
  obtain⟨_,_,_,q⟩:=hs
  exact False.elim q
end L2
namespace L2
open PySem PySem.Spec PyProof.Rows
section
variable {X:Cx}{x:Str}{p pos:Pos}{e:Expr}{es:List Expr}{t:TA}{id T:String}{r:List V→Hp→VK→Prop}
def tCB (r:List V→Hp→VK→Prop) (t:TA):TE:=fun σ H Q=>t σ H fun vs H1=>r vs H1 Q
theorem ϖy (hc:CallR X (.builtin id) r) (hg:Gl X x) (hm:X.mg x=none) (hv:bootBuiltins x=some (.builtin id)) (ha:PA X (e::es) t) (hn:x≠"__name__":=by decide) (hdb:(x == ("__debug__":Str))=false:=by decide)
  (he:starEach (e::es) X.env=(false,eval e X.env)::starEach es X.env:=by rfl) (hpl:(backTo pos (starEach es X.env)).any (·.1)=false:=by rfl):PE X (.Call (.Name x p) (e::es) [] pos) (tCB r t):=by
 intro pins s σ H Q I h
 refine wpAny_Call_Name_kw (ϱY I hg hm hv ?_ hn hdb)
 exact PyProof.Rows.callWith_builtin1 (thn (ha pos pins s σ H _ I h) fun us s1 ⟨vs,H1,I1,r1,q1⟩=>hc pins s1 σ H1 vs us Q I1 r1 q1) he hpl
theorem ϑy (hc:CallR X (.type T) r) (hg:Gl X x) (hm:X.mg x=none) (hv:bootBuiltins x=some (.type T)) (ha:PA X (e::es) t) (hn:x≠"__name__":=by decide) (hdb:(x == ("__debug__":Str))=false:=by decide)
  (he:starEach (e::es) X.env=(false,eval e X.env)::starEach es X.env:=by rfl) (hpl:(backTo pos (starEach es X.env)).any (·.1)=false:=by rfl):PE X (.Call (.Name x p) (e::es) [] pos) (tCB r t):=by
 intro pins s σ H Q I h
 refine wpAny_Call_Name_kw (ϱY I hg hm hv ?_ hn hdb)
 exact PyProof.Rows.callWith_type1 (thn (ha pos pins s σ H _ I h) fun us s1 ⟨vs,H1,I1,r1,q1⟩=>hc pins s1 σ H1 vs us Q I1 r1 q1) he hpl
end
end L2
namespace HT
open PySem PyProof.Rows
def lexLt:List Int→List Int→Bool
 |[],[]=>false
 |[],_::_=>true
 |_::_,[]=>false
 |x::xs,y::ys=>if x=y then lexLt xs ys else decide (x < y)
section
open PySem.SeqAt
open PySem.AutoSeq1 (wpAny_loadPart')
open PySem.MeetsSeq PySem.MeetsSeq2 PySem.MeetsSeq3
end
section
variable {prog:Program}{w:World}{A:Around}{E:Value→Shared→Prop}{s:Shared}
end
end HT
namespace L2
open PySem PySem.Spec PyProof.Rows
abbrev TO:=St→Hp→(Option Int→Hp→Prop)→Prop
def PO (X:Cx) (e:Option Expr) (t:TO):Prop:=
 ∀(pins:List (Addr×Obj)) (s:Shared) (σ:St) (H:Hp) (Q:Option Int→Hp→Prop),Inv X pins σ H s→t σ H Q →
  wpAny (model X.prog X.w) X.A (evalPart e X.env) (fun u s'=>∃o H',Inv X pins σ H' s'∧IsPart u o∧Q o H') X.xe s
section
variable {X:Cx}{e:Expr}{te:TE}{lo hi:Option Expr}{tl th:TO}{pos p2:Pos}
end
end L2
namespace L2
open PySem PySem.Spec PyProof.Rows
def ixN (n:Nat) (i:Int):Option Nat:=if 0≤i then (if i < n then some i.toNat else none) else if -(n:Int)≤i then some (i+n).toNat else none
def atI {α:Type} (xs:List α) (i:Int):Option α:=(ixN xs.length i).bind fun j=>xs[j]?
theorem ixN_seq {n:Nat}{i:Int}{j:Nat} (h:ixN n i=some j):seqIndex? i n=some j∧j < n∧-(n:Int)≤i∧i < n:=by
 unfold ixN at h
 by_cases h0:0≤i
 ·rw[if_pos h0] at h
  by_cases h1:i < n
  ·rw[if_pos h1] at h
   have e:i.toNat=j:=Option.some.inj h
   exact⟨by rw[seqIndex_of h0 h1,e],by omega,by omega,h1⟩
  ·rw[if_neg h1] at h;cases h
 ·rw[if_neg h0] at h
  by_cases h1:-(n:Int)≤i
  ·rw[if_pos h1] at h
   have e:(i+n).toNat=j:=Option.some.inj h
   exact⟨by rw[seqIndex_neg (by omega) h1,e],by omega,h1,by omega⟩
  ·rw[if_neg h1] at h;cases h
theorem ϡC {α:Type}{xs:List α}{i:Int}{v:α} (h:atI xs i=some v):∃j,seqIndex? i xs.length=some j∧xs[j]?=some v∧j < xs.length∧-(xs.length:Int)≤i∧i < xs.length:=by
 unfold atI at h
 cases e:ixN xs.length i with
 |none=>rw[e] at h;cases h
 |some j=>
  rw[e] at h
  obtain⟨h1,h2,h3,h4⟩:=ixN_seq e
  exact⟨j,h1,h,h2,h3,h4⟩
theorem ϖ9 {α:Type}{xs:List α}{j:Nat}{v:α} (h:xs[j]?=some v):atI xs (j:Int)=some v:=by
 have hj:j < xs.length:=(List.getElem?_eq_some_iff.mp h).1
 have e:ixN xs.length (j:Int)=some j:=by
  unfold ixN
  rw[if_pos (by omega),if_pos (by omega)];simp
 unfold atI;rw[e];exact h
def PlainIx (b:Expr):Prop:=∀o i,subscripted b false o i=operate [o,i] (getItem o i)
def IxR (X:Cx) (r:R2):Prop:=
 ∀(value slice:Expr) (pins:List (Addr×Obj)) (s:Shared) (σ:St) (H:Hp) (x y:V) (v u:Value) (Q:VK),Inv X pins σ H s→RelV x v→RelV y u→r x y H Q →
  subscripted slice false v u=operate [v,u] (getItem v u)→wpAny (model X.prog X.w) X.A (subscriptTail value slice v u) (EP X pins σ Q) X.xe s
def MtR (X:Cx) (id:String) (r:V→List V→Hp→VK→Prop):Prop:=
 ∀(pins:List (Addr×Obj)) (s:Shared) (σ:St) (H:Hp) (x:V) (xs:List V) (v:Value) (us:List Value) (Q:VK),Inv X pins σ H s→RelV x v→Vals xs us→r x xs H Q →
  wpAny (model X.prog X.w) X.A (call (.builtin id) (v::us)) (EP X pins σ Q) X.xe s
section
variable {X:Cx}{a b:Expr}{ta tb:TE}{pos:Pos}
theorem ϖq {r:R2} (hr:IxR X r) (ha:PE X a ta) (hb:PE X b tb) (hs:PlainIx b):PE X (.Subscript a b pos) (tOp r ta tb):=by
 intro pins s σ H Q I h
 exact Subscript_ (binT ha hb I h fun v u s2 x y H2 I2 rx ry q=>hr a b pins s2 σ H2 x y v u Q I2 rx ry q (hs _ _))
def rIxL (K:PySem.W.Frag):R2:=fun x y H Q=>∃p xs i v,x=.ref p∧y=.int i∧SqL K H p xs∧atI xs i=some v∧Q v H
def rIxT (K:PySem.W.Frag):R2:=fun x y H Q=>∃p xs i v,x=.ref p∧y=.int i∧SqT K H p xs∧atI xs i=some v∧Q v H
def rIxS:R2:=fun x y H Q=>∃z i c,x=.str z∧y=.int i∧z.length≤sizeLine∧atI z.cps.toList i=some c∧Q (.str ⟨#[c]⟩) H
theorem ϑj:IxR X (rIxL X.K):=by
 intro value slice pins s σ H x y v u Q I rx ry h hs
 obtain⟨p,xs,i,z,rfl,rfl,hq,he,q⟩:=h
 cases rx
 obtain⟨t,rfl⟩:=ry
 obtain⟨its,r,pl,hz⟩:=I.list hq
 obtain⟨j,h1,h2,h3,h4,h5⟩:=ϡC he
 obtain⟨w,ew,rw'⟩:=r.get h2
 have hl:=r.length
 have hn:=ϲ7
 have fin:EP X pins σ Q w s:=⟨z,H,I,rw',q⟩
 by_cases h0:0≤i
 ·have hj:i.toNat=j:=by
   rw[seqIndex_of h0 h5] at h1
   exact Option.some.inj h1
  exact item_listR pl.isList h0 (by omega) (by rw[hj];simpa using ew) fin hs
 ·have hj:(i+(its.toArray.size:Int)).toNat=j:=by
   rw[seqIndex_neg (by omega) h4] at h1
   rw[List.size_toArray,← hl]
   exact Option.some.inj h1
  exact subscriptTail_builtinR (x:=w) pl.isList.typeIs slot_list_getitem.lookup
   (wpAny_getItem_list_neg (Q:=fun r s'=>r=w∧EP X pins σ Q r s') pl.isList (by omega) (by rw[List.size_toArray]<;>omega) (by omega) (by rw[hj];simpa using ew) ⟨rfl,fin⟩) hs
theorem ϖl:IxR X (rIxT X.K):=by
 intro value slice pins s σ H x y v u Q I rx ry h hs
 obtain⟨p,xs,i,z,rfl,rfl,hq,he,q⟩:=h
 cases rx
 obtain⟨t,rfl⟩:=ry
 obtain⟨its,r,pl,hz⟩:=I.tuple hq
 obtain⟨j,h1,h2,h3,h4,h5⟩:=ϡC he
 obtain⟨w,ew,rw'⟩:=r.get h2
 have hl:=r.length
 have hn:=ϲ7
 have fin:EP X pins σ Q w s:=⟨z,H,I,rw',q⟩
 exact subscriptTail_builtinR (x:=w) pl.typeIs slot_tuple_getitem.lookup
  (getItem_tuple (j:=j) (Q:=fun r s'=>r=w∧EP X pins σ Q r s') pl (by omega) (by omega) (by rw[List.size_toArray,← hl];exact h1) (by simpa using ew) ⟨rfl,fin⟩) hs
theorem ϟp:IxR X rIxS:=by
 intro value slice pins s σ H x y v u Q I rx ry h hs
 obtain⟨z,i,c,rfl,rfl,hz,he,q⟩:=h
 obtain⟨t,rfl⟩:=rx
 obtain⟨t',rfl⟩:=ry
 obtain⟨j,h1,h2,h3,h4,h5⟩:=ϡC he
 have hl:z.cps.toList.length=z.length:=by simp[Str.length]
 rw[hl] at h1 h4 h5
 have hn:=ϲ7
 exact tail_any (typeIs_str s z t) slot_str_getitem.lookup (getItem_str (c:=c) (by
  have e1:decide (i < -(2 ^ 63:Int))=false:=decide_eq_false (by omega)
  have e2:decide (i≥2 ^ 63)=false:=decide_eq_false (by omega)
  rw[e1,e2,Bool.or_false]) (by rw[h1];simpa using h2) ⟨.str ⟨#[c]⟩,H,I.tok _,⟨_,rfl⟩,q⟩) hs
theorem ϲQ:OpR X (compareOp .NotIn) (fun x y H Q=>∃i j,x=.str i∧y=.str j∧Q (.bl (!(!(Builtin.Str.occurrences j i 0 j.length 1).isEmpty))) H):=by
 intro pins s σ H x y v u Q I rx ry h
 obtain⟨i,j,rfl,rfl,q⟩:=h
 obtain⟨t,rfl⟩:=rx
 obtain⟨t',rfl⟩:=ry
 exact notIn_str ⟨.bl _,H,I,rfl,q⟩
theorem ϲK:CallR X (.builtin "len") (fun xs H Q=>∃p ys,xs=[.ref p]∧(SqL X.K H p ys∨SqT X.K H p ys)∧Q (.int ys.length) H):=by
 intro pins s σ H xs us Q I r h
 obtain⟨p,ys,rfl,hq,q⟩:=h
 obtain⟨u,rfl,rx⟩:=ϱs r
 cases rx
 have hn:=ϲ7
 rcases hq with hq|hq
 ·obtain⟨its,r',pl,hz⟩:=I.list hq
  have hlen:=r'.length
  exact Calls.call_len_list pl.isList (by simp only[List.size_toArray]<;>omega) ⟨.int ys.length,H,I.tok _,⟨s.toks+1,by rw[List.size_toArray,hlen]⟩,q⟩
 ·obtain⟨its,r',pl,hz⟩:=I.tuple hq
  have hlen:=r'.length
  exact len_tuple pl (by simp only[List.size_toArray]<;>omega) ⟨.int ys.length,H,I.tok _,⟨s.toks+1,by rw[List.size_toArray,hlen]⟩,q⟩
theorem ϑn:CallR X (.builtin "len") (fun xs H Q=>∃z,xs=[.str z]∧z.length≤sizeLine∧Q (.int z.length) H):=by
 intro pins s σ H xs us Q I r h
 obtain⟨z,rfl,hz,q⟩:=h
 obtain⟨u,rfl,t,rfl⟩:=ϱs r
 have hn:=ϲ7
 exact len_str (by omega) ⟨.int z.length,H,I.tok _,⟨_,rfl⟩,q⟩
theorem CallR.or {f:Value}{r r':List V→Hp→VK→Prop} (h:CallR X f r) (h':CallR X f r'):CallR X f (fun xs H Q=>r xs H Q∨r' xs H Q):=by
 intro pins s σ H xs us Q I rs q
 rcases q with q|q
 ·exact h pins s σ H xs us Q I rs q
 ·exact h' pins s σ H xs us Q I rs q
theorem ϕZ:CallR X (.type "list") (fun xs H Q=>∃p ys,xs=[.ref p]∧(SqL X.K H p ys∨SqT X.K H p ys)∧∀l,H l=none→Q (.ref l) (upd H l (.lst ys))):=by
 intro pins s σ H xs us Q I r h
 obtain⟨p,ys,rfl,hq,q⟩:=h
 obtain⟨u,rfl,rx⟩:=ϱs r
 cases rx
 have fin:∀(its:List Value),Vals ys its→ys.length≤sizeLine→∀(h':Heap) (c':Nat),(∀ b o',s.heap.get? b=some o'→h'.get? b=some o') →
   h'.get? s.heap.objs.size=some { cls:=.type "list",dict:=none,data:=.seq its.toArray c',slots:=#[] }→EP X pins σ Q (.ref s.heap.objs.size) { s with heap:=h' }:=fun its r' hz h' c' kp e=>
  ⟨.ref s.heap.objs.size,_,I.laid (t':=s.toks) kp (Nat.le_refl _) (show ObjOk X.prog X.w _ h' _ (.lst ys) from ⟨hz,its,c',r',e⟩),rfl,q _ (I.hok.fresh (Nat.le_refl _))⟩
 rcases hq with hq|hq
 ·obtain⟨its,r',pl,hz⟩:=I.list hq
  have hlen:=r'.length
  obtain⟨o,ho,hc,n,hd⟩:=pl.isList
  exact call_list_seq p (.inl rfl) ho hc hd (fun h' c' kp e=>fin its r' hz h' c' kp e) (by simp only[List.size_toArray]<;>omega)
 ·obtain⟨its,r',pl,hz⟩:=I.tuple hq
  have hlen:=r'.length
  obtain⟨o,ho,hc,n,hd⟩:=pl
  exact call_list_seq p (.inr rfl) ho hc hd (fun h' c' kp e=>fin its r' hz h' c' kp e) (by simp only[List.size_toArray]<;>omega)
def tyV (K:PySem.W.Frag) (T:String) (x:V) (H:Hp):Prop:=match x with
 |.str _=>T="str"
 |.int _=>T="int"
 |.ref p=>(T="list"∧∃xs,SqL K H p xs)∨(T="tuple"∧∃o,K.lookup p=some o∧o.cls=.type "tuple"∧o.dict=none) ∨
   (T="dict"∧((∃ kvs,H p=some (.dK kvs))∨∃kvs,H p=some (.dT kvs)))∨(T="set"∧∃S n,H p=some (.set S n))
 |_=>False
theorem ϛ5 {pins:List (Addr×Obj)}{σ:St}{H:Hp}{s:Shared}{T:String}{x:V}{v:Value} (I:Inv X pins σ H s) (r:RelV x v) (ty:tyV X.K T x H) :
  s.TypeIs v T∧∀a,v=.ref a→∃ob,s.heap.get? a=some ob∧ob.dict=none:=by
 cases x with
 |str z=>
  obtain⟨t,rfl⟩:=r
  cases (show T="str" from ty)
  exact⟨typeIs_str s z t,fun _ e=>nomatch e⟩
 |int i=>
  obtain⟨t,rfl⟩:=r
  cases (show T="int" from ty)
  exact⟨typeIs_int s i t,fun _ e=>nomatch e⟩
 |ref p=>
  cases r
  rcases ty with⟨rfl,xs,hq⟩|⟨rfl,o,hk,hc,hd⟩|⟨rfl,hk⟩|⟨rfl,S,n,hk⟩
  ·obtain⟨its,_,pl,_⟩:=I.list hq
   refine⟨pl.isList.typeIs,fun a e=>?_⟩
   cases e
   obtain⟨o,n,e,c,hd,_⟩:=pl
   exact⟨o,e,hd⟩
  ·refine⟨⟨o,I.kIn p o hk,hc⟩,fun a e=>?_⟩
   cases e
   exact⟨o,I.kIn _ o hk,hd⟩
  ·have z:∃o,s.heap.get? p=some o∧o.ExactDict:=by
    rcases hk with⟨kvs,hk⟩|⟨kvs,hk⟩
    ·obtain⟨_,_,_,_,o,_,_,e,ex,_⟩:=I.hok p _ hk
     exact⟨o,e,ex⟩
    ·obtain⟨_,_,_,_,o,_,_,e,ex,_⟩:=I.hok p _ hk
     exact⟨o,e,ex⟩
   obtain⟨o,e,ex⟩:=z
   refine⟨⟨o,e,ex.1⟩,fun a e2=>?_⟩
   cases e2
   exact⟨o,e,ex.2.1⟩
  ·obtain⟨o,_,_,_,e,ex,_⟩:=I.hok p _ hk
   refine⟨⟨o,e,ex.1⟩,fun a e2=>?_⟩
   cases e2
   exact⟨o,e,ex.2.1⟩
 |_=>exact False.elim ty
def tBM0 (K:PySem.W.Frag) (T:String) (r:V→List V→Hp→VK→Prop) (to:TE):TE:=fun σ H Q=>to σ H fun x H1=>tyV K T x H1∧r x [] H1 Q
def tBM (K:PySem.W.Frag) (T:String) (r:V→List V→Hp→VK→Prop) (to:TE) (t:TA):TE:=fun σ H Q=>to σ H fun x H1=>tyV K T x H1∧t σ H1 fun xs H2=>r x xs H2 Q
variable {o e:Expr}{es:List Expr}{to:TE}{t:TA}{name:Str}{apos cpos:Pos}{T id:String}{r:V→List V→Hp→VK→Prop}
theorem pe_bm0 (pa:PlainAttrs T) (slot:Slot T name id) (hty:typeOf (.builtin id)=pure (.type "method_descriptor")) (hm:MtR X id r) (ho:PE X o to)
  (hbase:attributeBase o name X.env (eval o X.env)=eval o X.env:=by rfl) (hline:(apos.endLine == cpos.line)=true:=by rfl):PE X (.Call (.Attribute o name apos) [] [] cpos) (tBM0 X.K T r to):=by
 intro pins s σ H Q I h
 refine wpAny_Call_method0_late hbase hline (thn (ho pins s σ H _ I h) fun v s1 ⟨x,H1,I1,r1,ty,q1⟩=>?_)
 obtain⟨h1,h2⟩:=ϛ5 I1 r1 ty
 exact⟨T,id,pa,slot,hty,h1,h2,Calls.callWith_builtin rfl (PySem.evalArgs_none (hm pins s1 σ H1 x [] v [] Q I1 r1 .nil q1))⟩
theorem ϰB (pa:PlainAttrs T) (slot:Slot T name id) (hty:typeOf (.builtin id)=pure (.type "method_descriptor")) (hm:MtR X id r) (ho:PE X o to) (ha:PA X (e::es) t)
  (hbase:attributeBase o name X.env (eval o X.env)=eval o X.env:=by rfl)
  (hfew:((backTo cpos (starEach (e::es) X.env)).all (fun x=>!x.1) && (backToKw cpos (keywordEach [] X.env)).all (fun x=>x.1.isSome)
   && decide ((e::es).length+([]:List Keyword).length+(if ([]:List Keyword).isEmpty then 0 else 1) < 30))=true:=by rfl)
  (hline:(apos.endLine == cpos.line)=true:=by rfl) (hs:starEach (e::es) X.env=(false,eval e X.env)::starEach es X.env:=by rfl) (hplain:(backTo cpos (starEach es X.env)).any (·.1)=false:=by rfl) :
  PE X (.Call (.Attribute o name apos) (e::es) [] cpos) (tBM X.K T r to t):=by
 intro pins s σ H Q I h
 refine wpAny_Call_method_late hbase hfew hline rfl (thn (ho pins s σ H _ I h) fun v s1 ⟨x,H1,I1,r1,ty,q1⟩=>?_)
 obtain⟨h1,h2⟩:=ϛ5 I1 r1 ty
 refine⟨T,id,pa,slot,hty,h1,h2,?_⟩
 have hA:=ha cpos pins s1 σ H1 _ I1 q1
 rw[hs] at hA⊢
 refine Calls.callWith_builtin (by show(false || (backTo cpos (starEach es X.env)).any (·.1))=false;rw[hplain]<;>rfl) (Calls.evalArgs_plain ?_)
 exact thn hA fun us s2 ⟨vs,H2,I2,r2,q2⟩=>hm pins s2 σ H2 x vs v us Q I2 r1 r2 q2
end
end L2
namespace L2
open PySem PySem.Spec PyProof.Rows
def MtM (X:Cx) (id:String) (r:V→List V→Hp→VK→Prop):Prop:=
 ∀(pins:List (Addr×Obj)) (s:Shared) (σ:St) (H:Hp) (x:V) (xs:List V) (v:Value) (us:List Value) (Q:VK),Inv X pins σ H s→RelV x v→Vals xs us→r x xs H Q →
  wpAny (model X.prog X.w) X.A (call (.builtin id) (v::us)) (EP X pins σ Q) X.xe s
theorem Vals.one:∀{x:V}{us:List Value},Vals [x] us→∃u,us=[u]∧RelV x u
 |_,_,.cons r .nil=>⟨_,rfl,r⟩
theorem Vals.zero:∀{us:List Value},Vals [] us→us=[]
 |_,.nil=>rfl
section
variable {X:Cx}{pins:List (Addr×Obj)}{σ:St}{H:Hp}{s:Shared}{l b:Addr}{xs ys zs:List V}
theorem Inv.lset {its its':List Value}{n:Nat}{f:Array Value→Array Value}{t':Nat} (I:Inv X pins σ H s) (hH:H l=some (.lst xs))
  (e:s.heap.get? l=some { cls:=.type "list",data:=.seq its.toArray n }) (hf:f its.toArray=its'.toArray) (hv:Vals ys its') (hz:ys.length≤sizeLine) :
  Inv X pins σ (upd H l (.lst ys)) { s with heap:=s.heap.update l (Obj.mapSeq f),toks:=t' }:=by
 have q:=PySem.IsL.update e f
 rw[hf] at q
 refine I.write (x:=l) (e:=l) (by rw[hH];exact trivial) (.inl rfl) (fun b' u hb hu=>(Heap.get?_update_other s.heap (Obj.mapSeq f) (Ne.symm hb)).trans hu) ⟨_,q⟩ ?_
 exact⟨hz,its',_,hv,q⟩
theorem Inv.lnew {its:List Value}{t':Nat} (I:Inv X pins σ H s) (hv:Vals ys its) (hz:ys.length≤sizeLine) :
  Inv X pins σ (upd H s.heap.objs.size (.lst ys)) { s with heap:=s.heap.push { cls:=.type "list",data:=.seq its.toArray },toks:=t' }:=
 I.laid (fun _ _ q=>Heap.get?_push_of_some _ q) (Nat.le_refl _) ⟨hz,its,0,hv,Heap.get?_push_size _ rfl⟩
theorem Inv.fresh (I:Inv X pins σ H s):H s.heap.objs.size=none:=I.hok.fresh (Nat.le_refl _)
theorem Inv.lstM (I:Inv X pins σ H s) (hH:H l=some (.lst xs)):xs.length≤sizeLine∧∃(its:List Value) (n:Nat),Vals xs its∧xs.length=its.length∧s.heap.get? l=some { cls:=.type "list",data:=.seq its.toArray n }:=by
 obtain⟨z,its,n,r,e⟩:=I.hok l _ hH
 exact⟨z,its,n,r,r.length,e⟩
theorem ϛy {n:Nat} (h:n≤sizeLine):Builtin.List.listTooLong n=false:=by
 unfold Builtin.List.listTooLong
 exact decide_eq_false (by omega)
end
section
variable {X:Cx}
def rAppend:V→List V→Hp→VK→Prop:=fun x vs H Q=>∃l xs y,x=.ref l∧vs=[y]∧H l=some (.lst xs)∧xs.length < sizeLine∧Q .non (upd H l (.lst (xs++[y])))
theorem ϕI:MtM X "list.append" rAppend:=by
 intro pins s σ H x vs v us Q I rx rv h
 obtain⟨l,xs,y,rfl,rfl,hH,hz,q⟩:=h
 cases rx
 obtain⟨u,rfl,ru⟩:=rv.one
 obtain⟨z,its,n,r,hl,e⟩:=I.lstM hH
 refine call_meets F.slot_list_append ⟨_,e,rfl⟩ F.entry_list_append (F.args_list_append_2 _ _) (PySem.list_append l its.toArray n u (by rw[List.size_toArray];omega)) ⟨e,?_⟩
 refine⟨.non,_,I.lset (its':=its++[u]) hH e (by simp) (r.append (.cons ru .nil)) ?_,rfl,q⟩
 rw[List.length_append,List.length_singleton]
 omega
def rExtend:V→List V→Hp→VK→Prop:=fun x vs H Q=>∃l b xs zs,x=.ref l∧vs=[.ref b]∧H l=some (.lst xs)∧H b=some (.lst zs)∧xs.length+zs.length≤sizeLine∧Q .non (upd H l (.lst (xs++zs)))
theorem ϲn:MtM X "list.extend" rExtend:=by
 intro pins s σ H x vs v us Q I rx rv h
 obtain⟨l,b,xs,zs,rfl,rfl,hH,hB,hz,q⟩:=h
 cases rx
 obtain⟨u,rfl,ru⟩:=rv.one
 cases ru
 obtain⟨z,its,n,r,hl,e⟩:=I.lstM hH
 obtain⟨z2,its2,n2,r2,hl2,e2⟩:=I.lstM hB
 have hsz:its.toArray.size+its2.toArray.size≤sizeLine:=by rw[List.size_toArray,List.size_toArray];omega
 have hlong:¬ (!its.toArray.isEmpty && Builtin.List.listTooLong (its.toArray.size+its2.toArray.size))=true:=by
  rw[ϛy hsz,Bool.and_false]
  exact Bool.false_ne_true
 refine call_meets F.slot_list_extend ⟨_,e,rfl⟩ F.entry_list_extend (F.args_list_extend_2 _ _)
  (AutoSeq1.list_extend_list_list_0 l its.toArray n b its2.toArray n2 hlong (by rw[List.size_toArray];omega) (by omega)) ⟨e,e2,?_⟩
 refine⟨.non,_,I.lset (its':=its++its2) hH e (by simp) (r.append r2) ?_,rfl,q⟩
 rw[List.length_append]
 omega
def rClear:V→List V→Hp→VK→Prop:=fun x vs H Q=>∃l xs,x=.ref l∧vs=[]∧H l=some (.lst xs)∧Q .non (upd H l (.lst []))
theorem ϛF:MtM X "list.clear" rClear:=by
 intro pins s σ H x vs v us Q I rx rv h
 obtain⟨l,xs,rfl,rfl,hH,q⟩:=h
 cases rx
 have hus:=rv.zero
 subst hus
 obtain⟨z,its,n,r,hl,e⟩:=I.lstM hH
 refine call_meets F.slot_list_clear ⟨_,e,rfl⟩ F.entry_list_clear (F.args_list_clear_1 _) (AutoSeq1.list_clear_list_0 l its.toArray n (by rw[List.size_toArray];omega)) ⟨e,?_⟩
 exact⟨.non,_,I.lset (its':=[]) (ys:=[]) hH e rfl .nil (Nat.zero_le _),rfl,q⟩
def rCat:R2:=fun x y H Q=>∃l b xs zs,x=.ref l∧y=.ref b∧H l=some (.lst xs)∧H b=some (.lst zs)∧xs.length+zs.length≤sizeLine∧∀p,H p=none→Q (.ref p) (upd H p (.lst (xs++zs)))
theorem ϝN:OpR X (binaryOp .Add) rCat:=by
 intro pins s σ H x y v u Q I rx ry h
 obtain⟨l,b,xs,zs,rfl,rfl,hH,hB,hz,q⟩:=h
 cases rx
 cases ry
 obtain⟨z,its,n,r,hl,e⟩:=I.lstM hH
 obtain⟨z2,its2,n2,r2,hl2,e2⟩:=I.lstM hB
 refine PySem.P.add_list e e2 ?_ (by rw[List.size_toArray,List.size_toArray];omega)
 have ea:its.toArray++its2.toArray=(its++its2).toArray:=by simp
 rw[ea]
 exact⟨.ref _,_,I.lnew (t':=s.toks) (r.append r2) (by rw[List.length_append];omega),rfl,q _ I.fresh⟩
end
section
variable {prog:Program}{w:World}{A:Around}{E:Value→Shared→Prop}{s:Shared}
end
section
variable {X:Cx}
end
end L2
namespace Att
open PySem PySem.W PySem.Calls PyProof.Rows
theorem ϱ8 {P:Params}{h:Heap}:∀(ns:List Int) (vs:List Value),WellAll P h vs (ns.map WData.int)→IntsAre vs ns:=by
 intro ns
 induction ns with
 |nil=>
  intro vs w
  rw[List.map_nil] at w
  cases w
  exact .nil
 |cons n ns ih=>
  intro vs w
  rw[List.map_cons] at w
  cases w with
  |cons a b=>
   cases a
   exact .cons _ _ (ih _ b)
theorem ϝM {l:OpenLaw}{n:Nat} (hn:l.most=some n) {P:Params}{h:Heap}{args:List WData}{vals:List Value}
  (hpre:l.row.toRowW.claim.pre args=true) (hwl:WellAll P h vals args) :
  ∃a vs ns,vals=[Value.ref a]∧args=[WData.list (ns.map WData.int)]∧h.get? a=some { cls:=.type "list",data:=.seq vs.toArray }∧IntsAre vs ns∧ns.length≤n:=by
 have hsh:WShape.hasAll [] args [.list .int]=true:=(pre_splitW hpre).1
 have hc:l.pre.holds [] { args:=args }=true:=(pre_splitW hpre).2
 obtain⟨d,r,rfl,h1,h2⟩:=hasAllW_cons hsh
 obtain rfl:=hasAllW_nil h2
 obtain⟨xs,rfl,h3⟩:=hasW_list h1
 obtain⟨ns,rfl⟩:=items_int h3
 have hlen:ns.length≤n:=by
  unfold OpenLaw.pre at hc
  have h4:(WTm.not (.lt (.lit (.int (n:Int))) (.len (.arg 0)))).holds [] { args:=[.list (ns.map .int)] }=true:=by
   have h4:=(holds_andW hc).1
   rw[hn] at h4
   exact h4
  have h5:=condW_of h4 (w_not (w_lt w_lit (w_len_list (w_arg rfl))))
  rw[List.length_map] at h5
  refine Nat.le_of_not_lt fun q=>?_
  have q':(n:Int) < ((ns.length:Nat):Int):=by omega
  first
   |(rw[decide_eq_true q'] at h5;exact absurd h5 (by decide))
   |(simp at h5;omega)
 cases hwl with
 |cons w1 w2=>
  cases w2
  cases w1 with
  |list ho hall=>exact⟨_,_,ns,rfl,rfl,ho,ϱ8 ns _ hall,hlen⟩
theorem ϝ0 (l:OpenLaw) (args:List WData):l.row.toRowW.claim.post args (.bool true) args=true:=
 postW_of (r:=l.row.toRowW) (X:=(true == true))
  (show WShape.has [] (.bool true) .bool=true by first|rfl|decide|simp[WShape.has,WShape.arms,WShape.armsAll])
  (show(WTm.eq .res (.lit (.bool true))).value [] { args:=args,res:=some (.bool true),after:=args }=some (.bool (true == true)) from w_eq_bool (w_res rfl) w_lit) rfl
theorem attach_call {l:OpenLaw}{n:Nat}{q:Program}{loose:List Str}{XP:(Str→Option Value)→Heap→Prop}{YP:World→Heap→Prop}{d:DefRec}
  (hn:l.most=some n) (hdf:d.params.defaults=[])
  (call:∀(w:World) (s₀ s₁:Shared) (mg mb:Str→Option Value) (fa:Addr) (o:Obj) (pm cd doc:Value) (a:Addr) (vs:List Value) (ns:List Int),
   Ground q loose [] XP w s₀ mg mb s₁.heap→YP w s₁.heap →
   s₁.heap.get? fa=some o→o.data=.func (docDef d.name d.params d.body d.scope pm cd doc)→s₁.heap.CodeRec cd d.name→mg d.name=some (.ref fa) →
   s₁.heap.get? a=some { cls:=.type "list",data:=.seq vs.toArray }→IntsAre vs ns→ns.length≤n→s₁.gens=#[] →
   codeAny (model l.prog w) callerA (.call (.ref fa) ⟨[.ref a],[]⟩) (fun r s'=>r=.ok (.ret (.bool true))∧OldK s₁.heap s'.heap∧s'.os=s₁.os∧AllBare s'.gens) s₁) :
  WalkO q loose XP YP l.row.toRowW d [] (fun f vs=>PySem.call f vs):=by
 intro w s₀ s₁ mg mb G Y fa o pm cd doc dV kV ho hd hcd hD hmg hg args vals as hpre hlay hrd hwl hlo
 obtain rfl:dV=.none:=Dflts.none hD hdf
 obtain rfl:kV=.none:=Dflts.noKw hD
 obtain⟨a,vs,ns,rfl,rfl,hobj,hints,hlen⟩:=ϝM hn hpre hwl
 refine enter_call (codeAny_mono (call w s₀ s₁ mg mb fa o pm cd doc a vs ns G Y ho (fd_plain hd) hcd hmg hobj hints hlen hg) fun r s' hq=>?_)
 obtain⟨rfl,h2,h3,h4⟩:=hq
 exact⟨.inl ⟨.bool true,.bool true,[],rfl,fun _=>rfl,.bool true,ϝ0 l _,fun _=>⟨List.Pairwise.nil,fun _ hm=>(nomatch hm)⟩⟩,h2,h3,h4⟩
section
variable {prog:Program}{w:World}{A:Around}{E:Value→Shared→Prop}{s:Shared}{K:Frag}
def ledger (h:Heap) (L d:Addr):List (Addr×Obj):=(List.range h.objs.size).filterMap fun a=>if a=L∨a=d then none else (h.get? a).map fun o=>(a,o)
end
end Att
namespace L2
open PySem PySem.Spec PyProof.Rows
theorem ϱC:∀{vs:List Value}{ns:List Int},IntsAre vs ns→Vals (ns.map V.int) vs
 |_,_,.nil=>.nil
 |_,_,.cons n t h=>.cons ⟨t,rfl⟩ (ϱC h)
def Only (H:Hp):Prop:=∀b,H b=none∨∃o xs,H b=some (.frz o (.lst xs))
theorem ϛK {P:Program}{w:World}{K:PySem.W.Frag}{mg mb:Str→Option Value}{CX:CXT}{k:Nat}{fa a:Addr}{fd:FuncData}{x:Str}{sp:Sp}{s₁:Shared}{vs:List Value}{ns:List Int}
  (KX:K.In s₁.heap) (hns:s₁.heap.Ns mainGlobals mg) (hb:s₁.heap.Ns builtinsNs mb) (hbb:∀x:Str,x≠"__name__"→mb x=bootBuiltins x) (hlim:s₁.heap.NoLimit) (hg:s₁.gens=#[])
  (ha:s₁.heap.get? a=some { cls:=.type "list",data:=.seq vs.toArray }) (hi:IntsAre vs ns) (hl:ns.length≤sizeLine) (hr:Room k callerA)
  (F:∀base:Heap,K.In base→base.Ns mainGlobals mg→FnOk P w K mg base CX k fa fd [x] sp) (hbind:∀(s:Shared) (u:Value),BindsTo s fd ⟨[u],[]⟩ [(x,u)])
  (hsp:∀H:Hp,Only H→SqL K H a (ns.map V.int)→sp [.ref a] H (fun v _=>v=.bl true) fun _ _ _=>False)
  (hCX:∀H e s',CX [] H s₁ (fun _ _ _=>False) e s'→False) :
  codeAny (model P w) callerA (.call (.ref fa) ⟨[.ref a],[]⟩) (fun r s'=>r=.ok (.ret (.bool true))∧OldK s₁.heap s'.heap∧s'.os=s₁.os∧AllBare s'.gens) s₁:=by
 have rv:=ϱC hi
 have lenV:=hi.length
 have core:∀H:Hp,Only H→SqL K H a (ns.map V.int)→HOk P w H s₁.heap→(∀ b,H b≠none→b=a)→(H a≠none→K.lookup a=none) →
   codeAny (model P w) callerA (.call (.ref fa) ⟨[.ref a],[]⟩) (fun r s'=>r=.ok (.ret (.bool true))∧OldK s₁.heap s'.heap∧s'.os=s₁.os∧AllBare s'.gens) s₁:=by
  intro H hO hS hok hA hK
  have base_of:∀{b:Addr}{o:Obj},s₁.heap.get? b=some o→H b=none→(hidT s₁.heap H).get? b=some o:=fun e n=>ϛi e n
  have noA:∀{b:Addr}{o:Obj}{es:Array DictEntry}{ep:Nat},s₁.heap.get? b=some o→o.data=.dict es ep→H b=none:=fun {b o es ep} e d=>by
   cases q:H b with
   |none=>rfl
   |some u=>
    have e':b=a:=hA b (by rw[q];simp)
    subst e'
    rw[ha] at e;cases e
    have d':Data.seq vs.toArray _=Data.dict es ep:=d
    cases d'
  have nsK:∀{b:Addr}{m:Str→Option Value},s₁.heap.Ns b m→(hidT s₁.heap H).Ns b m:=fun {b m} ⟨o,es,ep,e,d,r⟩=>⟨o,es,ep,base_of e (noA e d),d,r⟩
  have hKb:K.In (hidT s₁.heap H):=fun b o e=>base_of (KX b o e) (by
   cases q:H b with
   |none=>rfl
   |some u=>
    have e':b=a:=hA b (by rw[q];simp)
    subst e'
    rw[hK (by rw[q];simp)] at e;cases e)
  have hM:Mod K mg (hidT s₁.heap H):=⟨hKb,nsK hns,⟨mb,nsK hb,hbb⟩,let ⟨mc,h1,h2⟩:=hlim;⟨mc,nsK h1,h2⟩⟩
  have e0:Env0 P w K mg (hidT s₁.heap H) callerA [] s₁ H:=⟨rfl,hM,fun b o e=>of_hidT e,Nat.le_of_eq (ϟ5 _ _),trivial,fun b hb=>absurd (show b∈([]:List Addr) from hb) (by simp),hok,.of_eq hg⟩
  refine codeAny_mono ((F _ hKb (nsK hns)).run callerA [] s₁ H ⟨[.ref a],[]⟩ [.ref a] [.ref a] _ _ hr e0 (hbind s₁ (.ref a)) (.cons rfl .nil) (hsp H hO hS)) fun r s' h=>?_
  cases r with
  |error e=>exact(hCX H e s' h).elim
  |ok fl=>
   cases fl with
   |next=>exact False.elim h
   |brk=>exact False.elim h
   |cont=>exact False.elim h
   |ret u=>
    obtain⟨v,H',os,bare,un,hok',r',q⟩:=h
    have q':v=.bl true:=q
    subst q'
    obtain rfl:u=Value.bool true:=r'
    refine⟨rfl,OldK.of_keep fun b o e=>?_,os,bare⟩
    cases q:H b with
    |none=>exact un.keep b o e q (by intro z;exact absurd (show b∈([]:List Addr) from z) (by simp)) (by simp)
    |some u=>
     rcases hO b with z|⟨ob,xs,z⟩
     ·rw[q] at z;cases z
     ·have z2:=un.frzs b ob _ z
      obtain⟨e1,_⟩:=hok b _ z
      obtain⟨e2,_⟩:=hok' b _ z2
      rw[e] at e1;cases e1
      exact e2
 cases hk:K.lookup a with
 |some o=>
  have e:=KX a o hk
  rw[ha] at e
  cases e
  refine core (fun _=>none) (fun _=>.inl rfl) (.inr ⟨_,vs.toArray,_,hk,rfl,rfl,rfl,by rw[List.size_toArray,lenV];exact hl,by simpa using rv⟩) (fun b u z=>by have z':(none:Option HO)=some u:=z;cases z') (fun b z=>absurd rfl z) fun z=>absurd rfl z
 |none=>
  refine core (fun b=>if b=a then some (.frz { cls:=.type "list",data:=.seq vs.toArray } (.lst (ns.map V.int))) else none) (fun b=>?_) (.inl (.inr ⟨{ cls:=.type "list",data:=.seq vs.toArray },if_pos rfl⟩)) (fun b u z=>?_) (fun b z=>?_) fun _=>hk
  ·by_cases hb:b=a
   ·exact .inr ⟨_,_,if_pos hb⟩
   ·exact .inl (if_neg hb)
  ·by_cases hb:b=a
   ·have z':=(if_pos hb).symm.trans z
    cases z'
    subst hb
    exact⟨ha,by rw[List.length_map];exact hl,vs,_,rv,ha⟩
   ·have z':=(if_neg hb).symm.trans z
    cases z'
  ·by_cases hb:b=a
   ·exact hb
   ·exact absurd (if_neg hb) z
end L2
namespace L2
open PySem PySem.Spec PyProof.Rows
abbrev KOf {K:PySem.W.Frag}{h:Heap} (_:K.In h):PySem.W.Frag:=K
theorem walk_of {l:PySem.W.OpenLaw}{n k:Nat}{q:Program}{loose:List Str}{XP:(Str→Option Value)→Heap→Prop}{YP:World→Heap→Prop}{d:DefRec}{K:Params→PySem.W.Frag}{CX:World→CXT}{sp:World→Sp}{x:Str}
  (hn:l.most=some n) (hn2:n≤sizeLine) (hdf:d.params.defaults=[]) (hr:Room k callerA)
  (hY:∀(w:World) (h:Heap),YP w h→(K w.params).In h)
  (F:∀(w:World) (mg:Str→Option Value) (fa:Addr) (h:Heap),(K w.params).In h→h.Ns mainGlobals mg→mg d.name=some (.ref fa) →
   ∃fd:FuncData,(∀ (s:Shared) (u:Value),BindsTo s fd ⟨[u],[]⟩ [(x,u)]) ∧
    ∀base:Heap,(K w.params).In base→base.Ns mainGlobals mg→FnOk l.prog w (K w.params) mg base (CX w) k fa fd [x] (sp w))
  (hsp:∀(w:World) (H:Hp) (a:Addr) (ns:List Int),ns.length≤n→Only H→SqL (K w.params) H a (ns.map V.int)→sp w [.ref a] H (fun v _=>v=.bl true) fun _ _ _=>False)
  (hCX:∀(w:World) (H:Hp) (s:Shared) (e:Value) (s':Shared),CX w [] H s (fun _ _ _=>False) e s'→False) :
  PySem.W.WalkO q loose XP YP l.row.toRowW d [] (fun f vs=>PySem.call f vs):=by
 refine Att.attach_call hn hdf fun w s₀ s₁ mg mb fa o pm cd doc a vs ns G Y ho hd hcd hmg hobj hints hlen hg=>?_
 have KX:=hY w _ Y
 obtain⟨fd,hb,hF⟩:=F w mg fa _ KX G.T.g hmg
 exact ϛK KX G.T.g G.T.b G.T.builtins G.T.nolimit hg hobj hints (Nat.le_trans hlen hn2) hr hF hb (fun H hO hS=>hsp w H a ns hlen hO hS) fun H e s'=>hCX w H s₁ e s'
end L2
namespace L2
open PySem PySem.Spec PyProof.Rows
def ϖD (s:Stmt):Arguments:=match s with
 |.FunctionDef _ a _ _ _ _ _ _ _ _=>a
 |_=>{ posonlyargs:=[],args:=[],vararg:=none,kwonlyargs:=[],kw_defaults:=[],kwarg:=none,defaults:=[] }
def ϖB (s:Stmt):List Stmt:=match s with
 |.FunctionDef _ _ b _ _ _ _ _ _ _=>b
 |_=>[]
def ϖj (s:Stmt):Scope:=match s with
 |.FunctionDef _ _ _ _ _ _ sc _ _ _=>sc
 |_=>{ kind:=.function,names:=[],isGenerator:=false,isCoroutine:=false }
abbrev CX0:CXT:=fun _ _ _ _ _ _=>False
abbrev E0:XK:=fun _ _ _=>False
theorem pass0 {X:Cx}:ϲF CX0 X E0:=fun _ _ _ _ _ _ _ h=>h.elim
structure Fun (K:PySem.W.Frag) (x qual:Str) (st:Stmt) (f:Addr) (fd:FuncData):Prop where
 ex:∃(oc:Value) (od:Option Addr) (kV doc pm:Value) (an:Option Addr) (cdv ct:Value) (osl:Array (Option Value)),
  fd=PySem.W.fnOf x qual (ϖD st) (ϖB st) (ϖj st) .none kV doc pm an cdv ct∧K.lookup f=some ⟨oc,od,.func fd,osl⟩∧PySem.W.codeIn K cdv qual=true
 kp:PySem.W.keepIn K (.ref f)=true
section
variable {P:Program}{w:World}{K:PySem.W.Frag}{mg:Str→Option Value}{base:Heap}
theorem Fun.ok {x qual:Str}{st:Stmt}{f:Addr}{fd:FuncData}{N ps:List Str}{k:Nat}{sp:Sp} (F:Fun K x qual st f fd) (S:FnScope N ps (ϖj st)) (len:∀vs H Q E,sp vs H Q E→vs.length=ps.length)
  (hbody:∀(cdv:Value) (A:Around) (outer:List Env) (s:Shared) (H:Hp) (vs:List V) (Q:VK) (E:XK),Room k (A.deeper (envOfC qual (ϖj st) s.heap.objs.size f cdv))→sp vs H Q E →
   ∃t,PSs (cxOf CX0 P w K mg base N qual (ϖj st) f cdv A outer s H E).nox (ϖB st) t∧t { nx:=fun _ H'=>Q .non H',rt:=Q } (start N vs) H):FnOk P w K mg base CX0 (k+1) f fd ps sp:=by
 obtain⟨oc,od,kV,doc,pm,an,cdv,ct,osl,rfl,lk,hcd⟩:=F.ex
 refine fn_of lk hcd S len fun A outer s H vs Q E hr hsp=>?_
 obtain⟨t,h,q⟩:=hbody cdv A outer s H vs Q E hr hsp
 exact⟨t,h.nox,q⟩
theorem Fun.binds {x qual:Str}{st:Stmt}{f:Addr}{fd:FuncData}{ps:List Str} (F:Fun K x qual st f fd)
  (h:∀(kV doc pm:Value) (an:Option Addr) (cdv ct:Value) (us:List Value),us.length=ps.length→bindArgs (PySem.W.fnOf x qual (ϖD st) (ϖB st) (ϖj st) .none kV doc pm an cdv ct) ⟨us,[]⟩=pure (ps.zip us)):Binds K fd ps []:=by
 obtain⟨oc,od,kV,doc,pm,an,cdv,ct,osl,rfl,lk,hcd⟩:=F.ex
 exact .all (h kV doc pm an cdv ct)
theorem ϖW {x qual:Str}{st:Stmt}{f:Addr}{oc:Value}{od an:Option Addr}{osl:Array (Option Value)}{kV doc pm cdv ct:Value} (l:K.lookup f=some ⟨oc,od,.func (PySem.W.fnOf x qual (ϖD st) (ϖB st) (ϖj st) .none kV doc pm an cdv ct),osl⟩)
  (c:PySem.W.codeIn K cdv qual=true) (k:PySem.W.keepIn K (.ref f)=true):Fun K x qual st f (PySem.W.fnOf x qual (ϖD st) (ϖB st) (ϖj st) .none kV doc pm an cdv ct):=⟨⟨oc,od,kV,doc,pm,an,cdv,ct,osl,rfl,l,c⟩,k⟩
end
theorem ϑT {A:Around}{k:Nat} (hr:Room k A):A.units+1 < cLine:=Nat.lt_of_le_of_lt (Nat.add_le_add_left (by decide:1≤64) _) hr.units
section
variable {X:Cx}
theorem pv (i:Nat) {x:Str}{pos:Pos} (hN:X.N[i]?=some x:=by rfl) (hv:Vis X.env.scope x:=by first|exact Or.inl rfl|exact Or.inr (Or.inl rfl)|exact Or.inr (Or.inr rfl)) (hd:(x == ("__debug__":Str))=false:=by decide)
  (hcd:(x == ("__classdict__":Str))=false:=by decide):PE X (.Name x pos) (tVar i):=pe_var hN hv hd hcd
end
theorem iteF {A B:Prop} (h:B):if false=true then A else B:=by
 rw[if_neg Bool.false_ne_true]
 exact h
theorem iteT {A B:Prop} (h:A):if true=true then A else B:=by
 rw[if_pos rfl]
 exact h
def Same (H H':Hp):Prop:=∀b o,H b=some o→H' b=some o
theorem Same.refl (H:Hp):Same H H:=fun _ _ h=>h
theorem Same.trans {H H1 H2:Hp} (a:Same H H1) (b:Same H1 H2):Same H H2:=fun c o h=>b c o (a c o h)
theorem Same.free {H H':Hp} (e:Same H H') {l:Addr} (h:H' l=Option.none):H l=Option.none:=by
 cases q:H l with
 |none=>rfl
 |some o=>
  rw[e l o q] at h
  cases h
theorem Same.seq {K:PySem.W.Frag}{H H':Hp}{a:Addr}{xs:List V} (e:Same H H') (h:SqL K H a xs):SqL K H' a xs:=by
 rcases h with (h|⟨o,h⟩)|h
 ·exact .inl (.inl (e _ _ h))
 ·exact .inl (.inr ⟨o,e _ _ h⟩)
 ·exact .inr h
end L2
namespace Hd
open PySem PySem.W PySem.Calls PyProof.Rows
def bt:Nat→Nat→Nat→List Obj→BT
 |0,_,_,_=>.nil
 |f+1,a,b,l=>match l[b]? with
  |none=>.nil
  |some o=>.node o (bt f (2*a) (a+b) l) (bt f (2*a) (2*a+b) l)
theorem ϝH:∀(f a b:Nat) (l:List Obj) (i:Nat),0 < a→i < f→(bt f a b l).get i=l[b+a*i]?
 |0,_,_,_,_,_,h=>absurd h (Nat.not_lt_zero _)
 |f+1,a,b,l,i,ha,hi=>by
  unfold bt
  cases e:l[b]? with
  |none=>
   have h1:l.length≤b:=List.getElem?_eq_none_iff.mp e
   have h2:b≤b+a*i:=Nat.le_add_right _ _
   rw[List.getElem?_eq_none (by omega)]
   rfl
  |some o=>
   show(BT.node o _ _).get i=_
   rw[BT.get_node]
   by_cases h0:i=0
   ·subst h0;rw[if_pos rfl,Nat.mul_zero,Nat.add_zero,e]
   ·rw[if_neg h0]
    by_cases h1:i % 2=1
    ·rw[if_pos h1,ϝH f (2*a) (a+b) l (i / 2) (by omega) (by omega)]
     congr 1
     have e2:i=2*(i / 2)+1:=by omega
     calc a+b+2*a*(i / 2)=b+a*(2*(i / 2)+1):=by rw[Nat.mul_add,Nat.mul_one,← Nat.mul_assoc,Nat.mul_comm a 2];omega
      _=b+a*i:=by rw[← e2]
    ·rw[if_neg h1,ϝH f (2*a) (2*a+b) l (i / 2-1) (by omega) (by omega)]
     congr 1
     have e2:i=2*((i / 2-1)+1):=by omega
     calc 2*a+b+2*a*(i / 2-1)=b+a*(2*((i / 2-1)+1)):=by rw[← Nat.mul_assoc,Nat.mul_comm a 2,Nat.mul_add,Nat.mul_one];omega
      _=b+a*i:=by rw[← e2]
def toT (n:Nat) (s:Shared):SharedT:=⟨bt n 1 0 s.heap.objs.toList,n,s.heap.life,s.gens,s.drawn,s.toks,s.os⟩
theorem toT_abs {n:Nat}{s:Shared} (h:s.heap.objs.size=n):(toT n s).abs=s:=by
 obtain⟨⟨objs,life⟩,g,d,k,os⟩:=s
 have e:absHeap (bt n 1 0 objs.toList) n life=⟨objs,life⟩:=by
  have q:(absHeap (bt n 1 0 objs.toList) n life).objs=objs:=by
   apply Array.ext_getElem?
   intro i
   rw[absHeap_at]
   by_cases hi:i < n
   ·rw[if_pos hi,ϝH n 1 0 _ i (by decide) hi,Nat.zero_add,Nat.one_mul]
    have:i < objs.size:=by rw[h];exact hi
    simp[this]
   ·rw[if_neg hi]
    exact(Array.getElem?_eq_none (by rw[h];omega)).symm
  show Heap.mk (absHeap (bt n 1 0 objs.toList) n life).objs life=_
  rw[q]
 show Shared.mk (absHeap (bt n 1 0 objs.toList) n life) g d k os=_
 rw[e]
abbrev body (p:Program) (env:Env):Code:=.body (behindTheImports p) env
abbrev base (fp:Pos):List Frame:=[topFrame fp]
def look {α:Type} (p q:Program) (loose:List Str) (Xt:Shared→Bool) (Yf:Shared→α) (H₀:Heap) (s:Shared):=
 ((staticsOk (importedModules p.main.body) H₀ s.heap && namesBound p s.heap && gensDone s && laidKept H₀ s.heap),openSeen q loose (importedModules p.main.body) Xt true s,Yf s)
theorem left_of {p q:Program}{loose:List Str}{Xt:Shared→Bool}{α:Type}{Yf:Shared→α}{Ya:World→α}{N m₀ k1 k2 k3 k4 n₁:Nat}{ann:Option Value}{env:Env}{fp p1 p2 p3:Pos}
  (e0:opening p=plainProg p.main.scope.names) (hN:Nat.ble 600 N=true) (f0:∀s,fenceModules? p s=some s)
  (size:∀w:World,((boot_heap w.params).isNs mainGlobals && (Array.mk ([]:List GenState)).size == 0,(boot_heap w.params).objs.size,(boot_heap w.params).nsMap mainGlobals "__annotations__")=(true,m₀,ann))
  (le:Nat.ble (k1+(k2+(k3+k4))) N=true)
  (h:∀w:World,(fun os=>(topGo treeTable p w m₀ ann k1 ⟨boot_heap w.params,Array.mk [],boot_drawn,boot_toks,os⟩ (topStub p)).map fun r=>(r.2,
    (segRun treeTable p w m₀ ann 1 k2 r.1 (blockOf (behindTheImports p) env (body p env) p1 (base fp))).map fun b=>((b.1,b.2.2,b.2.1.heap.objs.size),
     (segRunT treeTable p w m₀ ann 1 k3 (toT n₁ b.2.1) (piecesOf (behindTheImports p) env (body p env) p2 (base fp))).map fun c=>((c.1,c.2.2),
      (topRun treeTable p w m₀ ann k4 c.2.1.abs ⟨doneF .next,body p env,p3,base fp⟩).map (look p q loose Xt Yf (boot_heap w.params)))))) =
   fun _=>some (⟨denote treeTable (body p env),body p env,p1,base fp⟩,some ((.next,(body p env,p2),n₁),some ((.next,body p env,p3),some (true,openGood q loose,Ya w))))) :
  LeftO p q loose Xt Yf Ya N:=fun w=>by
 obtain⟨s0,a0,b0⟩:=Option.map_eq_some_iff.mp (boot_open e0 hN f0 w)
 obtain⟨hp,gs,d,k,os⟩:=s0
 obtain⟨rfl,rfl,rfl,rfl⟩:hp=boot_heap w.params∧gs=Array.mk []∧d=boot_drawn∧k=boot_toks:=by simpa using b0
 obtain⟨z1,z2,z3⟩:_∧_∧_:=by simpa only [Prod.mk.injEq] using size w
 obtain⟨⟨s1,t1⟩,h1,e1⟩:=Option.map_eq_some_iff.mp (congrFun (h w) os)
 obtain⟨rfl,e1⟩:=Prod.mk.inj e1
 obtain⟨⟨f2,s2,c2,q2⟩,h2,e2⟩:=Option.map_eq_some_iff.mp e1
 obtain⟨e2,e2'⟩:=Prod.mk.inj e2
 obtain⟨rfl,e2⟩:=Prod.mk.inj e2
 obtain⟨e2,hz⟩:=Prod.mk.inj e2
 obtain⟨rfl,rfl⟩:=Prod.mk.inj e2
 obtain⟨⟨f3,s3,c3,q3⟩,h3,e3⟩:=Option.map_eq_some_iff.mp e2'
 obtain⟨e3,e3'⟩:=Prod.mk.inj e3
 obtain⟨rfl,e3⟩:=Prod.mk.inj e3
 obtain⟨rfl,rfl⟩:=Prod.mk.inj e3
 obtain⟨s4,h4,e4⟩:=Option.map_eq_some_iff.mp e3'
 have h3':=segRun_of h3
 rw[toT_abs hz] at h3'
 have h4':topRun treeTable p w m₀ ann (k3+k4) s2 (restOf (behindTheImports p++[]) env (body p env) _ [topFrame fp])=some s4:=piece_app h3' h4
 rw[List.append_nil] at h4'
 have r:=topRun_mono (N-(k1+(k2+(k3+k4)))) _ _ _ _ (go_top h1 (piece_block h2 h4'))
 rw[show k1+(k2+(k3+k4))+(N-(k1+(k2+(k3+k4))))=N by have:=Nat.le_of_ble_eq_true le;omega] at r
 obtain⟨l1,l2⟩:=Prod.mk.inj e4
 have t:topFrom treeTable p w N ⟨boot_heap w.params,Array.mk [],boot_drawn,boot_toks,os⟩=some s4:=by
  unfold topFrom
  dsimp only
  rw[z1,z2,z3,r]
  dsimp only[Option.bind_some]
  rw[l1]
 unfold openEnds
 rw[a0]
 show(topFrom treeTable p w N _).map _=_
 rw[t]
 exact congrArg some l2
end Hd
namespace Hd
open PySem PySem.W PySem.Calls PyProof.Rows
end Hd
namespace Hd
open PySem PySem.W PySem.Calls PyProof.Rows
end Hd
namespace L3
section
variable {α:Type}{r:α→α→Prop}
variable {T O X Y X1 X2 Y1 Y2:List α}
end
end L3
namespace L3
open PySem PyProof.Rows
def KLt (prog:Program) (w:World) (A:Around) (s:Shared) (κ:KeyKind) (kd:SortKind):Prop:=
 ∀(E:Value→Shared→Prop) (x y:Value) (a b:κ.α) {Q:Bool→Shared→Prop},κ.keyOf x=some a→κ.keyOf y=some b→Q (κ.blt a b) s→wpAny (model prog w) A (keyLt' kd x y) Q E s
section
variable {kd:SortKind}{κ:KeyKind}{prog:Program}{w:World}{A:Around}{E:Value→Shared→Prop}{s:Shared}
def ky (κ:KeyKind) (p:Keyed):κ.α:=(κ.keyOf p.1).getD κ.dflt
def Rk (κ:KeyKind) (p q:Keyed):Prop:=κ.kle (ky κ p) (ky κ q)
def Ko (κ:KeyKind) (p:Keyed):Prop:=∃a,κ.keyOf p.1=some a
theorem Ko.eq {p:Keyed} (h:Ko κ p):κ.keyOf p.1=some (ky κ p):=by
 obtain⟨a,h⟩:=h
 unfold ky;rw[h];rfl
theorem wpS_lt2 (hO:KLt prog w A s κ kd) {st:SortSt}{x y:Keyed}{Q:Option Bool→SortSt→Prop} (hk:kindOf st=kd) (hx:Ko κ x) (hy:Ko κ y)
  (h:Q (some (κ.blt (ky κ x) (ky κ y))) st):wpS (model prog w) A E s (lt' x y) Q st:=by
 rw[lt'_eq]
 refine wpS_bind (wpS_get ?_)
 rw[hk]
 exact wpS_bind (wpS_lift (wpAny_attempt (hO _ _ _ _ _ hx.eq hy.eq ⟨rfl,wpS_pure h⟩)))
theorem ϟd {M:Model}{st:SortSt}{arr:Array Keyed}{i:Nat}{p:Keyed}{Q:Keyed→SortSt→Prop} (hi:arr[i]?=some p) (h:Q p st):wpS M A E s (elem' arr i) Q st:=by
 rw[elem'_eq,hi];exact wpS_pure h
end
end L3
namespace L3
open PySem PyProof.Rows
section
variable {kd:SortKind}{κ:KeyKind}{prog:Program}{w:World}{A:Around}{E:Value→Shared→Prop}{s:Shared}
theorem ϝG {α:Type}{a:Array α}{i:Nat} (h:i < a.size):∃p,a[i]?=some p:=⟨a[i],getElem?_pos a i h⟩
theorem ϛZ {α:Type}{a:Array α}{i:Nat}{p:α} (h:a[i]?=some p):p∈a.toList:=by
 rw[← Array.getElem?_toList] at h
 exact List.mem_of_getElem? h
section
variable {a b o:Array Keyed}{ia ib:Nat}
end
end
end L3
namespace L3
open PySem PyProof.Rows
section
variable {kd:SortKind}{κ:KeyKind}{prog:Program}{w:World}{A:Around}{E:Value→Shared→Prop}{s:Shared}
section
variable {a b o:Array Keyed}{na nb:Nat}
end
end
end L3
namespace L3
open PySem PyProof.Rows
section
variable {kd:SortKind}{κ:KeyKind}{prog:Program}{w:World}{A:Around}{E:Value→Shared→Prop}{s:Shared}
end
end L3
namespace L3
open PySem PyProof.Rows
section
variable {kd:SortKind}{κ:KeyKind}{prog:Program}{w:World}{A:Around}{E:Value→Shared→Prop}{s:Shared}{a₀:Array Keyed}{pd:Array (Nat×Nat×Nat)}{F:Nat→Option Keyed}{lo:Nat}
structure SB (kd:SortKind) (a₀:Array Keyed) (pd:Array (Nat×Nat×Nat)) (F:Nat→Option Keyed) (lo:Nat) (st:SortSt):Prop where
 perm:(arrOf st).Perm a₀
 kind:kindOf st=kd
 failed:failedOf st=none
 pend:pendingOf st=pd
 pre:∀i,i < lo→(arrOf st)[i]?=F i
theorem SB.size {st:SortSt} (h:SB kd a₀ pd F lo st):(arrOf st).size=a₀.size:=h.perm.size_eq
theorem SB.mir {st:SortSt} (h:SB kd a₀ pd F lo st) {i j:Nat} (hi:lo≤i) (hj:j≤a₀.size):SB kd a₀ pd F lo (setArr st (mirror (arrOf st) i j ((j-i) / 2))):=
 ⟨(mirror_perm _ _ _ _).trans h.perm,h.kind,h.failed,h.pend,fun k hk=>by
  show(mirror (arrOf st) i j ((j-i) / 2))[k]?=_
  rw[getElem?_mirror_all (by rw[h.size];exact hj),if_neg (by omega)];exact h.pre k hk⟩
theorem SB.bub {st:SortSt} (h:SB kd a₀ pd F lo st) {k d:Nat} (hk:k < a₀.size) (hd:d≤k) (hl:lo≤k-d):SB kd a₀ pd F lo (setArr st (bubble (arrOf st) k d)):=
 ⟨(bubble_perm _ _ _).trans h.perm,h.kind,h.failed,h.pend,fun i hi=>by
  show(bubble (arrOf st) k d)[i]?=_
  rw[getElem?_bubble (by rw[h.size];exact hk) d hd,if_neg (by omega),if_neg (by omega)];exact h.pre i hi⟩
def SF (κ:KeyKind) (xs:Array Keyed) (lo n:Nat):Prop:=∀i j,lo≤i→i≤j→j < lo+n→κ.kle (KK κ xs i) (KK κ xs j)
def NF (κ:KeyKind) (xs:Array Keyed) (lo n:Nat):Prop:=∀i j,lo≤i→i≤j→j < lo+n→κ.kle (KK κ xs j) (KK κ xs i)
theorem ϵI {xs:Array Keyed}{i:Nat}{p:Keyed} (h:xs[i]?=some p):KK κ xs i=ky κ p:=by unfold KK ky;rw[h]
theorem ϰ1 {st:SortSt}{i j:Nat}{Q:Option Bool→SortSt→Prop} (hO:KLt prog w A s κ kd) (hB:SB kd a₀ pd F lo st) (h0:∀p,p∈a₀.toList→Ko κ p) (hi:i < a₀.size) (hj:j < a₀.size)
  (h:Q (some (κ.blt (KK κ (arrOf st) i) (KK κ (arrOf st) j))) st):wpS (model prog w) A E s (ltAt' i j) Q st:=by
 obtain⟨p,hp⟩:=ϝG (a:=arrOf st) (i:=i) (by rw[hB.size];exact hi)
 obtain⟨q,hq⟩:=ϝG (a:=arrOf st) (i:=j) (by rw[hB.size];exact hj)
 rw[ϵI hp,ϵI hq] at h
 have mm:∀{x},x∈(arrOf st).toList→Ko κ x:=fun hx=>h0 _ ((Array.perm_iff_toList_perm.mp hB.perm).mem_iff.mp hx)
 rw[ltAt'_eq]
 exact wpS_bind (wpS_get (wpS_bind (ϟd hp (wpS_bind (ϟd hq (wpS_lt2 hO hB.kind (mm (ϛZ hp)) (mm (ϛZ hq)) h))))))
theorem ϵH {M:Model}{st:SortSt}{i j:Nat}{Q:Unit→SortSt→Prop} (h:Q () (setArr st (mirror (arrOf st) i j ((j-i) / 2)))):wpS M A E s (reverseSlice' i j) Q st:=wpS_modify h
theorem SF.one {xs:Array Keyed}{n:Nat} (h:n≤1):SF κ xs lo n:=fun i j h1 h2 h3=>by
 have:i=j:=by omega
 subst this;exact KeyOrd.kle_refl _
theorem ϛI {st:SortSt}{n ok:Nat}{Q:Bool→SortSt→Prop} (hO:KLt prog w A s κ kd) (h0:∀p,p∈a₀.toList→Ko κ p) (hn:lo+n≤a₀.size) (hok:ok≤n) (hB:SB kd a₀ pd F lo st) (hs:SF κ (arrOf st) lo ok)
  (h:∀st',SB kd a₀ pd F lo st'→SF κ (arrOf st') lo n→Q true st'):wpS (model prog w) A E s (binarySort' lo n ok) Q st:=by
 rw[binarySort'_eq]
 refine wpS_bind (wpS_mono (wpS_forRange (I:=fun k c st'=>c=(none,())∧SB kd a₀ pd F lo st'∧SF κ (arrOf st') lo (min k n))
  (Q:=fun c st'=>c=(none,())∧SB kd a₀ pd F lo st'∧SF κ (arrOf st') lo n) ?step ?fin ?init) ?post)
 case post=>
  rintro c st' ⟨rfl,hB',hs'⟩
  exact wpS_pure (h st' hB' hs')
 case init=>
  refine⟨rfl,hB,?_⟩
  by_cases h1:ok=0
  ·exact SF.one (by omega)
  ·exact fun i j hl hij hj=>hs i j hl hij (by omega)
 case fin=>
  rintro c st' ⟨hc,hB',hs'⟩
  refine⟨hc,hB',?_⟩
  rwa [show min (max (max ok 1) n) n=n by omega] at hs'
 case step=>
  rintro k c st' hak hkn ⟨rfl,hB',hs'⟩
  rw[show min k n=k by omega] at hs'
  have hk:lo+k < a₀.size:=by omega
  refine wpS_bind (wpS_mono (wpS_forRange (a:=0) (b:=k) (I:=fun x c st''=>st''=st'∧∃l r,c=(none,l,r)∧l≤r∧r≤k∧r-l≤k-x ∧
    (∀ i,lo≤i→i < lo+l→κ.kle (KK κ (arrOf st') i) (KK κ (arrOf st') (lo+k)))∧(∀ i,lo+r≤i→i < lo+k→κ.klt (KK κ (arrOf st') (lo+k)) (KK κ (arrOf st') i)))
   (Q:=fun c st''=>st''=st'∧∃l r,c=(none,l,r)∧l≤k ∧
    (∀ i,lo≤i→i < lo+l→κ.kle (KK κ (arrOf st') i) (KK κ (arrOf st') (lo+k)))∧(∀ i,lo+l≤i→i < lo+k→κ.klt (KK κ (arrOf st') (lo+k)) (KK κ (arrOf st') i))) ?istep ?ifin ?iinit) ?ipost)
  case iinit=>exact⟨rfl,0,k,rfl,by omega,by omega,by omega,fun i _ hi=>by omega,fun i h1 h2=>by omega⟩
  case ifin=>
   rintro c st'' ⟨rfl,l,r,rfl,hlr,hrk,hm,hlo,hhi⟩
   have:l=r:=by omega
   subst this
   exact⟨rfl,l,l,rfl,hrk,hlo,hhi⟩
  case istep=>
   rintro x c st'' _ hxk ⟨rfl,l,r,rfl,hlr,hrk,hm,hlo,hhi⟩
   dsimp only
   by_cases hge:l≥r
   ·rw[if_pos hge]
    have:l=r:=by omega
    subst this
    exact wpS_pure ⟨rfl,l,l,rfl,hrk,hlo,hhi⟩
   ·rw[if_neg hge]
    refine wpS_bind (ϰ1 hO hB' h0 hk (by omega) ?_)
    cases hless:κ.blt (KK κ (arrOf st'') (lo+k)) (KK κ (arrOf st'') (lo+(l+r) / 2)) with
    |true=>
     exact wpS_pure ⟨rfl,l,(l+r) / 2,rfl,by omega,by omega,by omega,hlo,fun i h1 h2=>KeyOrd.klt_of_klt_of_kle hless (hs' _ _ (by omega) h1 h2)⟩
    |false=>
     exact wpS_pure ⟨rfl,(l+r) / 2+1,r,rfl,by omega,by omega,by omega,fun i hl h1=>KeyOrd.kle_trans (hs' i (lo+(l+r) / 2) hl (by omega) (by omega)) (show κ.kle _ _ from hless),hhi⟩
  case ipost=>
   rintro c st'' ⟨rfl,l,r,rfl,hlk,hlo,hhi⟩
   refine wpS_bind (wpS_modify (wpS_pure ⟨rfl,hB'.bub (k:=lo+k) (d:=lo+k-(lo+l)) hk (by omega) (by omega),?_⟩))
   rw[show min (k+1) n=k+1 by omega]
   have hks:lo+k < (arrOf st'').size:=by rw[hB'.size];exact hk
   intro i j hl hij hj
   show κ.kle (KK κ (bubble (arrOf st'') (lo+k) (lo+k-(lo+l))) i) (KK κ (bubble (arrOf st'') (lo+k) (lo+k-(lo+l))) j)
   rw[KK_bubble hks (by omega),KK_bubble hks (by omega),show lo+k-(lo+k-(lo+l))=lo+l by omega]
   repeat' split
   all_goals first
    |(exfalso;omega)
    |exact KeyOrd.kle_refl _
    |exact hlo _ (by omega) (by omega)
    |exact KeyOrd.kle_of_klt (hhi _ (by omega) (by omega))
    |exact hs' _ _ (by omega) (by omega) (by omega)
theorem SF.snoc {xs:Array Keyed}{n:Nat} (h:SF κ xs lo n) (h1:1≤n) (hb:κ.blt (KK κ xs (lo+n)) (KK κ xs (lo+n-1))=false):SF κ xs lo (n+1):=fun i j hl hij hj=>by
 by_cases hjx:j < lo+n
 ·exact h i j hl hij hjx
 ·have hj':j=lo+n:=by omega
  subst hj'
  by_cases hi':i=lo+n
  ·subst hi';exact KeyOrd.kle_refl _
  ·exact KeyOrd.kle_trans (h i (lo+n-1) hl (by omega) (by omega)) hb
theorem NF.snoc {xs:Array Keyed}{n:Nat} (h:NF κ xs lo n) (h1:1≤n) (hb:κ.kle (KK κ xs (lo+n)) (KK κ xs (lo+n-1))):NF κ xs lo (n+1):=fun i j hl hij hj=>by
 by_cases hjx:j < lo+n
 ·exact h i j hl hij hjx
 ·have hj':j=lo+n:=by omega
  subst hj'
  by_cases hi':i=lo+n
  ·subst hi';exact KeyOrd.kle_refl _
  ·exact KeyOrd.kle_trans hb (h i (lo+n-1) hl (by omega) (by omega))
theorem NF.congr {xs ys:Array Keyed}{n:Nat} (h:NF κ xs lo n) (e:∀k,KK κ ys k=KK κ xs k):NF κ ys lo n:=fun i j hl hij hj=>by rw[e,e];exact h i j hl hij hj
theorem ϛu {st:SortSt}{nrem:Nat}{Q:Option Nat→SortSt→Prop} (hO:KLt prog w A s κ kd) (h0:∀p,p∈a₀.toList→Ko κ p) (hn:lo+nrem≤a₀.size) (h1:1≤nrem) (hB:SB kd a₀ pd F lo st)
  (h:∀m st',SB kd a₀ pd F lo st'→1≤m→m≤nrem→SF κ (arrOf st') lo m→Q (some m) st') :
  wpS (model prog w) A E s (countRun' lo nrem) Q st:=by
 delta countRun'
 refine wpS_bind (wpS_mono (wpS_forRange (a:=1) (b:=nrem) (I:=fun x c st'=>st'=st∧c=(none,x)∧SF κ (arrOf st) lo x)
  (Q:=fun c st'=>st'=st∧∃n,c=(none,n)∧1≤n∧n≤nrem∧SF κ (arrOf st) lo n∧(n=nrem∨κ.klt (KK κ (arrOf st) (lo+n)) (KK κ (arrOf st) (lo+n-1)))) ?step ?fin ⟨rfl,rfl,SF.one (Nat.le_refl _)⟩) ?post)
 case fin=>
  rintro c st' ⟨rfl,rfl,hs'⟩
  rw[show max 1 nrem=nrem by omega] at hs'⊢
  exact⟨rfl,nrem,rfl,h1,Nat.le_refl _,hs',.inl rfl⟩
 case step=>
  rintro x c st' hax hxn ⟨rfl,rfl,hs'⟩
  refine wpS_bind (ϰ1 hO hB h0 (by omega) (by omega) ?_)
  cases hless:κ.blt (KK κ (arrOf st') (lo+x)) (KK κ (arrOf st') (lo+x-1)) with
  |true=>exact wpS_pure ⟨rfl,x,rfl,hax,by omega,hs',.inr hless⟩
  |false=>exact wpS_pure ⟨rfl,rfl,hs'.snoc hax hless⟩
 case post=>
  rintro c st' ⟨rfl,n,rfl,hn1,hn2,hsn,hor⟩
  dsimp -zeta only
  extract_lets +onlyGivenNames r n'
  show wpS (model prog w) A E s (if (n == nrem)=true then pure (some n) else _) Q st'
  by_cases c:(n == nrem)=true
  ·rw[if_pos c]
   exact wpS_pure (h n _ hB hn1 hn2 hsn)
  rw[if_neg c]
  have nn:¬ n=nrem:=fun e=>c (beq_iff_eq.mpr e)
  have hlt:κ.klt (KK κ (arrOf st') (lo+n)) (KK κ (arrOf st') (lo+n-1)):=hor.resolve_left nn
  extract_lets +onlyGivenNames n1 q0 jp
  have fin:∀st2,SB kd a₀ pd F lo st2→NF κ (arrOf st2) lo (n+1)→wpS (model prog w) A E s (jp ()) Q st2:=by
   intro st2 hB2 hs2
   refine wpS_bind (wpS_lift (wpAny_rule ⟨rfl,?_⟩))
   refine wpS_bind (wpS_mono (wpS_forRange (a:=n+1) (b:=nrem) (I:=fun x c st'=>∃neq,c=(none,x,neq)∧SB kd a₀ pd F lo st'∧NF κ (arrOf st') lo x∧neq+1≤x ∧
     (∀ i,lo+x-(neq+1)≤i→i < lo+x→KK κ (arrOf st') i=KK κ (arrOf st') (lo+x-1)))
    (Q:=fun c st'=>∃m neq,c=(none,m,neq)∧SB kd a₀ pd F lo st'∧n+1≤m∧m≤nrem∧NF κ (arrOf st') lo m∧neq+1≤m ∧
     (∀ i,lo+m-(neq+1)≤i→i < lo+m→KK κ (arrOf st') i=KK κ (arrOf st') (lo+m-1))) ?step2 ?fin2 ⟨0,rfl,hB2,hs2,by omega,fun i h1 h2=>by congr 1;omega⟩) ?post2)
   case fin2=>
    rintro c st3 ⟨neq,rfl,hB',hs',hq,he⟩
    rw[show max (n+1) nrem=nrem by omega] at hs' hq he⊢
    exact⟨nrem,neq,rfl,hB',by omega,Nat.le_refl _,hs',hq,he⟩
   case step2=>
    rintro x c st3 hax hxn ⟨neq,rfl,hB',hs',hq,he⟩
    have hsz:lo+x≤(arrOf st3).size:=by rw[hB'.size];omega
    refine wpS_bind (ϰ1 (i:=lo+x) (j:=lo+x-1) hO hB' h0 (by omega) (by omega) ?_)
    cases hless:κ.blt (KK κ (arrOf st3) (lo+x)) (KK κ (arrOf st3) (lo+x-1)) with
    |true=>
     have nx:NF κ (arrOf st3) lo (x+1):=hs'.snoc (by omega) (KeyOrd.kle_of_klt hless)
     show wpS (model prog w) A E s (if neq > 0 then (reverseSlice' (lo+x-(neq+1)) (lo+x) >>= fun _=>pure (ForInStep.yield (none,x+1,0))) else pure (ForInStep.yield (none,x+1,0))) _ st3
     by_cases hneq:neq > 0
     ·rw[if_pos hneq]
      exact wpS_bind (ϵH (wpS_pure ⟨0,rfl,hB'.mir (by omega) (by omega),nx.congr (KK_mirror_equal hsz he),by omega,fun i h1 h2=>by congr 1;omega⟩))
     ·rw[if_neg hneq]
      exact wpS_pure ⟨0,rfl,hB',nx,by omega,fun i h1 h2=>by congr 1;omega⟩
    |false=>
     refine wpS_bind (ϰ1 (i:=lo+x-1) (j:=lo+x) hO hB' h0 (by omega) (by omega) ?_)
     cases hlarger:κ.blt (KK κ (arrOf st3) (lo+x-1)) (KK κ (arrOf st3) (lo+x)) with
     |true=>exact wpS_pure ⟨x,neq,rfl,hB',hax,by omega,hs',hq,he⟩
     |false=>
      have heqx:KK κ (arrOf st3) (lo+x)=KK κ (arrOf st3) (lo+x-1):=KeyOrd.kle_antisymm hlarger hless
      refine wpS_pure ⟨neq+1,rfl,hB',hs'.snoc (by omega) hlarger,by omega,fun i h1 h2=>?_⟩
      rw[show lo+(x+1)-1=lo+x by omega]
      by_cases hix:i=lo+x
      ·subst hix;rfl
      ·rw[heqx];exact he i (by omega) (by omega)
   case post2=>
    rintro c st3 ⟨m,neq,rfl,hB',hm1,hm2,hs',hq,he⟩
    have hsz:lo+m≤(arrOf st3).size:=by rw[hB'.size];omega
    dsimp -zeta only
    extract_lets +onlyGivenNames z2 m' neq' jp2
    have fin2:∀st4,SB kd a₀ pd F lo st4→NF κ (arrOf st4) lo m→wpS (model prog w) A E s (jp2 ()) Q st4:=by
     intro st4 hB4 hs4
     have hsz4:lo+m≤(arrOf st4).size:=by rw[hB4.size];omega
     refine wpS_bind (ϵH ?_)
     have hB5:=hB4.mir (i:=lo) (j:=lo+m) (Nat.le_refl _) (by omega)
     have hs5:SF κ (mirror (arrOf st4) lo (lo+m) ((lo+m-lo) / 2)) lo m:=by
      intro i j hl hij hj
      rw[KK_mirror hsz4,KK_mirror hsz4,if_pos (by omega),if_pos (by omega)]
      exact hs4 _ _ (by omega) (by omega) (by omega)
     revert hB5
     show SB kd a₀ pd F lo (setArr st4 (mirror (arrOf st4) lo (lo+m) ((lo+m-lo) / 2)))→_
     have hs6:SF κ (arrOf (setArr st4 (mirror (arrOf st4) lo (lo+m) ((lo+m-lo) / 2)))) lo m:=hs5
     show _→wpS (model prog w) A E s _ _ (setArr st4 (mirror (arrOf st4) lo (lo+m) ((lo+m-lo) / 2)))
     generalize setArr st4 (mirror (arrOf st4) lo (lo+m) ((lo+m-lo) / 2))=st5 at hs6⊢
     intro hB5
     refine wpS_bind (wpS_mono (wpS_forRange (a:=m) (b:=nrem) (I:=fun x c st'=>st'=st5∧c=(none,x)∧SF κ (arrOf st5) lo x)
      (Q:=fun c st'=>st'=st5∧∃n,c=(none,n)∧1≤n∧n≤nrem∧SF κ (arrOf st5) lo n) ?step3 ?fin3 ⟨rfl,rfl,hs6⟩) ?post3)
     case fin3=>
      rintro c st' ⟨rfl,rfl,hs'⟩
      rw[show max m nrem=nrem by omega] at hs'⊢
      exact⟨rfl,nrem,rfl,h1,Nat.le_refl _,hs'⟩
     case step3=>
      rintro x c st' hax hxn ⟨rfl,rfl,hs'⟩
      refine wpS_bind (ϰ1 hO hB5 h0 (by omega) (by omega) ?_)
      cases hless:κ.blt (KK κ (arrOf st') (lo+x)) (KK κ (arrOf st') (lo+x-1)) with
      |true=>exact wpS_pure ⟨rfl,x,rfl,by omega,by omega,hs'⟩
      |false=>exact wpS_pure ⟨rfl,rfl,hs'.snoc (by omega) hless⟩
     case post3=>
      rintro c st' ⟨rfl,k,rfl,hk1,hk2,hsk⟩
      exact wpS_pure (h k _ hB5 hk1 hk2 hsk)
    clear_value jp2
    show wpS (model prog w) A E s (if neq > 0 then (reverseSlice' (lo+m-(neq+1)) (lo+m) >>= fun r=>jp2 r) else jp2 ()) Q st3
    by_cases hneq:neq > 0
    ·rw[if_pos hneq]
     exact wpS_bind (ϵH (fin2 _ (hB'.mir (by omega) (by omega)) (hs'.congr (KK_mirror_equal hsz he))))
    ·rw[if_neg hneq]
     exact fin2 _ hB' hs'
  clear_value jp
  show wpS (model prog w) A E s (if n > 1 then _ else jp ()) Q st'
  by_cases hgt:n > 1
  ·rw[if_pos hgt]
   refine wpS_bind (ϰ1 hO hB h0 (by omega) (show lo+n-1 < _ by omega) ?_)
   cases hrose:κ.blt (KK κ (arrOf st') lo) (KK κ (arrOf st') (lo+n-1)) with
   |true=>exact wpS_pure (h n _ hB hn1 hn2 hsn)
   |false=>
    have hsz:lo+n≤(arrOf st').size:=by rw[hB.size];omega
    have hall:∀k,lo≤k→k < lo+n→KK κ (arrOf st') k=KK κ (arrOf st') (lo+n-1):=by
     intro k hl hk
     exact KeyOrd.kle_antisymm (hsn k (lo+n-1) hl (by omega) (by omega)) (KeyOrd.kle_trans hrose (hsn lo k (Nat.le_refl _) hl hk))
    refine wpS_bind (ϵH (fin _ (hB.mir (j:=lo+n) (Nat.le_refl _) (by omega)) (NF.snoc ?_ hn1 ?_)))
    ·exact NF.congr (xs:=arrOf st') (fun i j hl hij hj=>by rw[hall i hl (by omega),hall j (by omega) hj];exact KeyOrd.kle_refl _) (KK_mirror_equal hsz hall)
    ·show κ.kle (KK κ (mirror (arrOf st') _ _ _) _) (KK κ (mirror (arrOf st') _ _ _) _)
     rw[KK_mirror_equal hsz hall,KK_mirror_equal hsz hall];exact KeyOrd.kle_of_klt hlt
  ·rw[if_neg hgt]
   refine fin _ hB (NF.snoc (fun i j hl hij hj=>?_) hn1 (KeyOrd.kle_of_klt hlt))
   have:i=j:=by omega
   subst this;exact KeyOrd.kle_refl _
end
end L3
namespace L3
open PySem PyProof.Rows
section
variable {kd:SortKind}{κ:KeyKind}{prog:Program}{w:World}{A:Around}{E:Value→Shared→Prop}{s:Shared}
def RunsAt (κ:KeyKind):Nat→List (Nat×Nat×Nat)→List (List Keyed)→Prop
 |_,[],[]=>True
 |o,p::ps,r::rs=>p.1=o∧p.2.1=r.length∧0 < r.length∧r.Pairwise (Rk κ)∧RunsAt κ (o+r.length) ps rs
 |_,_,_=>False
end
end L3
namespace L3
open PySem PyProof.Rows
section
variable {prog:Program}{w:World}{A:Around}{E:Value→Shared→Prop}{s:Shared}
end
end L3
namespace L2
open PySem PySem.Spec PyProof.Rows
section
variable {κ:Type} [DecidableEq κ]
def valV (kvs:List (κ×V)) (k:κ):Option V:=(kvs.find? fun kv=>decide (kv.1=k)).map (·.2)
def putK (kvs:List (κ×V)) (k:κ) (v:V):List (κ×V):=
 if (kvs.any fun kv=>decide (kv.1=k))=true then kvs.map (fun kv=>if kv.1=k then (kv.1,v) else kv) else kvs++[(k,v)]
theorem ϡ_ {k:κ}:valV ([]:List (κ×V)) k=none:=rfl
theorem ϖ8 {p:κ×V}{r:List (κ×V)}{k:κ} (e:p.1=k):valV (p::r) k=some p.2:=by simp[valV,List.find?_cons,e]
theorem ϖ7 {p:κ×V}{r:List (κ×V)}{k:κ} (e:¬ p.1=k):valV (p::r) k=valV r k:=by simp[valV,List.find?_cons,e]
theorem ϰK (k:κ):∀kvs:List (κ×V),(kvs.any fun kv=>decide (kv.1=k))=(valV kvs k).isSome
 |[]=>rfl
 |p::r=>by
  rw[List.any_cons]
  by_cases e:p.1=k
  ·simp only[ϖ8 e,decide_eq_true e,Bool.true_or,Option.isSome_some]
  ·rw[ϖ7 e,decide_eq_false e,Bool.false_or];exact ϰK k r
theorem ϡL (k j:κ) (y:V):∀kvs:List (κ×V),valV (kvs.map fun kv=>if kv.1=k then (kv.1,y) else kv) j=(valV kvs j).map fun x=>if j=k then y else x
 |[]=>rfl
 |p::r=>by
  have ih:=ϡL k j y r
  rw[List.map_cons]
  by_cases h:p.1=k
  ·rw[if_pos h]
   by_cases e:p.1=j
   ·rw[ϖ8 (p:=(p.1,y)) e,ϖ8 e,Option.map_some,if_pos (e.symm.trans h)]
   ·rw[ϖ7 (p:=(p.1,y)) e,ϖ7 e,ih]
  ·rw[if_neg h]
   by_cases e:p.1=j
   ·rw[ϖ8 (p:=p) e,ϖ8 e,Option.map_some,if_neg (fun z=>h (e.trans z))]
   ·rw[ϖ7 (p:=p) e,ϖ7 e,ih]
theorem ϲk (k j:κ) (y:V):∀kvs:List (κ×V),valV kvs k=none→valV (kvs++[(k,y)]) j=if j=k then some y else valV kvs j
 |[],_=>by
  by_cases e:k=j
  ·rw[if_pos e.symm];exact ϖ8 (p:=(k,y)) e
  ·rw[if_neg (fun z=>e z.symm)];exact ϖ7 (p:=(k,y)) e
 |p::r,hn=>by
  rw[List.cons_append]
  have hk:¬ p.1=k:=fun z=>by rw[ϖ8 z] at hn;cases hn
  rw[ϖ7 hk] at hn
  have ih:=ϲk k j y r hn
  by_cases e:p.1=j
  ·rw[ϖ8 e,ϖ8 e,if_neg (fun z=>hk (e.trans z))]
  ·rw[ϖ7 e,ϖ7 e,ih]
theorem ϰt (kvs:List (κ×V)) (k j:κ) (y:V):valV (putK kvs k y) j=if j=k then some y else valV kvs j:=by
 unfold putK
 by_cases a:(kvs.any fun kv=>decide (kv.1=k))=true
 ·rw[if_pos a,ϡL]
  rw[ϰK] at a
  by_cases e:j=k
  ·obtain⟨x,hx⟩:=Option.isSome_iff_exists.mp a
   rw[if_pos e,e,hx,Option.map_some,if_pos rfl]
  ·rw[if_neg e]
   cases valV kvs j with
   |none=>rfl
   |some x=>rw[Option.map_some,if_neg e]
 ·rw[if_neg a]
  refine ϲk k j y kvs ?_
  rw[ϰK] at a
  cases q:valV kvs k with
  |none=>rfl
  |some x=>rw[q] at a;exact(a rfl).elim
theorem ϕm (kvs:List (κ×V)) (k:κ) (v:V):(putK kvs k v).length≤kvs.length+1:=by
 unfold putK
 split
 ·rw[List.length_map];omega
 ·rw[List.length_append,List.length_cons,List.length_nil];omega
theorem ϵL {kvs:List (κ×V)}{k:κ} (v:V) (h:valV kvs k=none):putK kvs k v=kvs++[(k,v)]:=by
 unfold putK
 rw[ϰK,h]
 exact if_neg (by decide)
theorem RelO.isSome_eq {o:Option V}{u:Option Value} (r:RelO o u):o.isSome=u.isSome:=by
 cases o with
 |none=>cases u with
  |none=>rfl
  |some _=>exact(show False from r).elim
 |some _=>cases u with
  |none=>exact(show False from r).elim
  |some _=>rfl
theorem RelO.getD {o:Option V}{u:Option Value}{d:V}{d':Value} (r:RelO o u) (rd:RelV d d'):RelV (o.getD d) (u.getD d'):=by
 cases o with
 |none=>cases u with
  |none=>exact rd
  |some _=>exact(show False from r).elim
 |some _=>cases u with
  |none=>exact(show False from r).elim
  |some _=>exact r
theorem KV.val {kvs:List (κ×V)}{vs:List (κ×Value)} (r:KV kvs vs) (k:κ):RelO (valV kvs k) (valueAt vs k):=by
 unfold KV at r
 induction r with
 |nil=>exact True.intro
 |@cons p q ps qs h t ih=>
  obtain⟨h1,h2⟩:=h
  by_cases e:p.1=k
  ·have e':q.1=k:=h1.symm.trans e
   have b:valueAt (q::qs) k=some q.2:=by simp[valueAt,List.find?_cons,e']
   rw[ϖ8 e,b];exact h2
  ·have e':¬ q.1=k:=fun z=>e (h1.trans z)
   have b:valueAt (q::qs) k=valueAt qs k:=by simp[valueAt,List.find?_cons,e']
   rw[ϖ7 e,b];exact ih
theorem KV.any {kvs:List (κ×V)}{vs:List (κ×Value)} (r:KV kvs vs) (k:κ):(kvs.any fun kv=>decide (kv.1=k))=vs.any fun kv=>decide (kv.1=k):=by
 unfold KV at r
 induction r with
 |nil=>rfl
 |cons h t ih=>rw[List.any_cons,List.any_cons,ih,h.1]
theorem KV.repl {kvs:List (κ×V)}{vs:List (κ×Value)} (r:KV kvs vs) (k:κ) {y:V}{u:Value} (ry:RelV y u) :
  KV (kvs.map fun kv=>if kv.1=k then (kv.1,y) else kv) (vs.map fun kv=>if kv.1=k then (kv.1,u) else kv):=by
 unfold KV at r⊢
 induction r with
 |nil=>exact .nil
 |@cons p q ps qs h t ih=>
  rw[List.map_cons,List.map_cons]
  refine .cons ?_ ih
  obtain⟨h1,h2⟩:=h
  by_cases e:p.1=k
  ·rw[if_pos e,if_pos (h1.symm.trans e)];exact⟨h1,ry⟩
  ·rw[if_neg e,if_neg (fun z=>e (h1.trans z))];exact⟨h1,h2⟩
theorem KV.put {kvs:List (κ×V)}{vs:List (κ×Value)} (r:KV kvs vs) (k:κ) {y:V}{u:Value} (ry:RelV y u):KV (putK kvs k y) (stored vs k u):=by
 unfold putK stored
 rw[r.any k]
 by_cases e:(vs.any fun kv=>decide (kv.1=k))=true
 ·rw[if_pos e,if_pos e];exact r.repl k ry
 ·rw[if_neg e,if_neg e];exact Paired.snoc r ⟨rfl,ry⟩
theorem KV.length {kvs:List (κ×V)}{vs:List (κ×Value)} (r:KV kvs vs):kvs.length=vs.length:=Paired.length r
end
theorem ϲS {P:Program}{w:World}{k:Key}{u:Value} (r:RelV (kV k) u):(ϖv P w).is k u=true:=by
 cases k with
 |inl i=>obtain⟨t,e⟩:=(show ∃t,u=Value.int i t from r);subst e;exact ϡu P w i t
 |inr x=>obtain⟨t,e⟩:=(show ∃t,u=Value.str x t from r);subst e;exact ϡm P w x t
theorem ϲI {P:Program}{w:World}:∀{ks:List Key}{us:List Value},Vals (ks.map kV) us→ItemsAre (ϖv P w) ks us
 |[],_,r=>by rw[List.map_nil] at r;cases r;exact .nil
 |k::ks,_,r=>by
  rw[List.map_cons] at r
  cases r with
  |cons h t=>exact .cons (ϲS h) (ϲI t)
abbrev KT (H:Hp):List (List Key×V)→List (List Key×Addr×Value)→Prop:=Paired fun p q=>p.1=q.1∧H q.2.1=some (.tup (p.1.map kV))∧RelV p.2 q.2.2
theorem KT.val {H:Hp}{kvs:List (List Key×V)}{xs:List (List Key×Addr×Value)} (r:KT H kvs xs) (k:List Key):RelO (valV kvs k) ((atKey xs k).map (·.2)):=by
 induction r with
 |nil=>exact True.intro
 |@cons p q ps qs h t ih=>
  obtain⟨h1,_,h2⟩:=h
  by_cases e:p.1=k
  ·have e':q.1=k:=h1.symm.trans e
   have b:atKey (q::qs) k=some q.2:=by simp[atKey,List.find?_cons,e']
   rw[ϖ8 e,b];exact h2
  ·have e':¬ q.1=k:=fun z=>e (h1.trans z)
   have b:atKey (q::qs) k=atKey qs k:=by simp[atKey,List.find?_cons,e']
   rw[ϖ7 e,b];exact ih
theorem KT.repl {H:Hp}{kvs:List (List Key×V)}{xs:List (List Key×Addr×Value)} (r:KT H kvs xs) (k:List Key) {y:V}{u:Value} (ry:RelV y u) :
  KT H (kvs.map fun kv=>if kv.1=k then (kv.1,y) else kv) (xs.map (putAt k u)):=by
 induction r with
 |nil=>exact .nil
 |@cons p q ps qs h t ih=>
  rw[List.map_cons,List.map_cons]
  refine .cons ?_ ih
  obtain⟨h1,h2,h3⟩:=h
  unfold putAt
  by_cases e:p.1=k
  ·rw[if_pos e,if_pos (h1.symm.trans e)];exact⟨h1,h2,ry⟩
  ·rw[if_neg e,if_neg (fun z=>e (h1.trans z))];exact⟨h1,h2,h3⟩
theorem KT.put {H:Hp}{kvs:List (List Key×V)}{xs:List (List Key×Addr×Value)} (r:KT H kvs xs) (k:List Key) {b:Addr}{y:V}{u:Value} (hb:H b=some (.tup (k.map kV))) (ry:RelV y u) :
  KT H (putK kvs k y) (storedH xs k b u):=by
 have e:(kvs.any fun kv=>decide (kv.1=k))=(atKey xs k).isSome:=by
  rw[ϰK,(r.val k).isSome_eq,Option.isSome_map]
 unfold putK storedH
 rw[e]
 by_cases q:(atKey xs k).isSome=true
 ·rw[if_pos q,if_pos q];exact r.repl k ry
 ·rw[if_neg q,if_neg q];exact Paired.snoc r ⟨rfl,hb,ry⟩
theorem KT.keeps {H H':Hp}{kvs:List (List Key×V)}{xs:List (List Key×Addr×Value)} (r:KT H kvs xs) (ht:∀b ys,H b=some (.tup ys)→H' b=some (.tup ys)):KT H' kvs xs:=
 Paired.mapP r fun _ _ z=>⟨z.1,ht _ _ z.2.1,z.2.2⟩
section
variable {P:Program}{w:World}{H:Hp}{h:Heap}{a:Addr}
theorem rd_of {u:HO} (ok:HOk P w H h) (e:Rd H a u):ObjOk P w H h a u:=e.ok ok
theorem ϟz {kvs:List (Key×V)} (ok:HOk P w H h) (e:Rd H a (.dK kvs)):kvs.length≤sizeLine∧(a == sysModules)=false∧∃vs,KV kvs vs∧h.DictOf (ϖv P w) a vs:=
 show ObjOk P w H h a (.dK kvs) from rd_of ok e
theorem dk_of {kvs:List (Key×V)} (ok:HOk P w H h) (e:H a=some (.dK kvs)):kvs.length≤sizeLine∧(a == sysModules)=false∧∃vs,KV kvs vs∧h.DictOf (ϖv P w) a vs:=ϟz ok (.inl e)
theorem ϱ0 {ks:List Key} (ok:HOk P w H h) (e:H a=some (.tup (ks.map kV))):(tupleKind (ϖv P w)).is h ks a:=by
 obtain⟨_,its,r,o,h1,h2,n,h3⟩:=(show ObjOk P w H h a (.tup (ks.map kV)) from ok a _ e)
 exact⟨o,its.toArray,n,h1,h2,h3,by simpa using ϲI r⟩
theorem ϟD {kvs:List (List Key×V)} (ok:HOk P w H h) (e:Rd H a (.dT kvs)):kvs.length≤sizeLine∧(a == sysModules)=false ∧
  ∃xs,KT H kvs xs∧h.DictOfH (tupleKind (ϖv P w)) a xs:=by
 obtain⟨z,y,xs,r,o,es,ep,h1,h2,h3,h4,h5⟩:=(show ObjOk P w H h a (.dT kvs) from rd_of ok e)
 refine⟨z,y,xs,r,o,es,ep,h1,h2,h3,h4,fun x hx=>?_,h5⟩
 have all:∀{l:List (List Key×V)}{m:List (List Key×Addr×Value)},KT H l m→∀x∈m,(tupleKind (ϖv P w)).is h x.1 x.2.1:=by
  intro l m q
  induction q with
  |nil=>intro x hx;exact nomatch hx
  |@cons p q ps qs hq t ih=>
   intro x hx
   rcases List.mem_cons.mp hx with e|hx
   ·subst e
    exact ϱ0 ok (by rw[← hq.1];exact hq.2.1)
   ·exact ih x hx
 exact all r x hx
theorem dt_of {kvs:List (List Key×V)} (ok:HOk P w H h) (e:H a=some (.dT kvs)):kvs.length≤sizeLine∧(a == sysModules)=false ∧
  ∃xs,KT H kvs xs∧h.DictOfH (tupleKind (ϖv P w)) a xs:=ϟD ok (.inl e)
end
def DGet (H:Hp) (a:Addr) (y:V) (r:Option V):Prop:=
 (∃ kvs k,Rd H a (.dK kvs)∧y=kV k∧r=valV kvs k)∨∃kvs k b,Rd H a (.dT kvs)∧y=.ref b∧H b=some (.tup (k.map kV))∧r=valV kvs k
def DPut (H:Hp) (a:Addr) (y v:V) (H':Hp):Prop:=
 (∃ kvs k,H a=some (.dK kvs)∧y=kV k∧kvs.length < sizeLine∧H'=upd H a (.dK (putK kvs k v))) ∨
 ∃kvs k b,H a=some (.dT kvs)∧y=.ref b∧H b=some (.tup (k.map kV))∧kvs.length < sizeLine∧H'=upd H a (.dT (putK kvs k v))
theorem DGet.k {H:Hp}{a:Addr}{kvs:List (Key×V)}{k:Key} (e:H a=some (.dK kvs)):DGet H a (kV k) (valV kvs k):=.inl ⟨kvs,k,.inl e,rfl,rfl⟩
theorem DGet.t {H:Hp}{a b:Addr}{kvs:List (List Key×V)}{k:List Key} (e:H a=some (.dT kvs)) (eb:H b=some (.tup (k.map kV))):DGet H a (.ref b) (valV kvs k):=.inr ⟨kvs,k,b,.inl e,rfl,eb,rfl⟩
theorem DPut.t {H:Hp}{a b:Addr}{kvs:List (List Key×V)}{k:List Key}{v:V} (e:H a=some (.dT kvs)) (eb:H b=some (.tup (k.map kV))) (hl:kvs.length < sizeLine) :
  DPut H a (.ref b) v (upd H a (.dT (putK kvs k v))):=.inr ⟨kvs,k,b,e,rfl,eb,hl,rfl⟩
section
variable {X:Cx}{pins:List (Addr×Obj)}{σ:St}{H:Hp}{s:Shared}{a:Addr}{y v:V}{u r:Value}{o:Option V}{A:Around}{E:Value→Shared→Prop}
theorem Inv.big (I:Inv X pins σ H s):sysModules < s.heap.objs.size:=by
 have h:mainGlobals < s.heap.objs.size:=(I.mod.glob.keeps I.bk).lt
 exact Nat.lt_trans (by decide) h
theorem ϝA {Q:Value→Shared→Prop} (hu:A.units+1 < cLine) (I:Inv X pins σ H s) (g:DGet H a y (some v)) (ry:RelV y u) (h:∀w' s',Inv X pins σ H s'→RelV v w'→Q w' s') :
  wpAny (model X.prog X.w) A (getItem (.ref a) u) Q E s:=by
 rcases g with⟨kvs,k,e,ey,l⟩|⟨kvs,k,b,e,ey,eb,l⟩
 ·subst ey
  obtain⟨z,hd,vs,rel,dd⟩:=ϟz I.hok e
  obtain⟨w',hw,rw'⟩:=RelO.some_of (v:=v) (o:=valueAt vs k) (by rw[l];exact rel.val k)
  exact wpAny_getItem_of (ϲS ry) dd.mapOf hw (h w' _ (I.tok _) rw')
 ·subst ey
  cases (show u=Value.ref b from ry)
  obtain⟨z,hd,xs,rel,dd⟩:=ϟD I.hok e
  obtain⟨w',hw,rw'⟩:=RelO.some_of (v:=v) (o:=(atKey xs k).map (·.2)) (by rw[l];exact rel.val k)
  obtain⟨p,hp,hp2⟩:=Option.map_eq_some_iff.mp hw
  refine wpAny_getItem_heap (tupleKind_room_in1 hu) (ϱ0 I.hok eb) dd hp ?_
  rw[hp2]
  exact h w' _ (I.tok _) rw'
theorem d_in {Q:Value→Shared→Prop} (hu:A.units+1 < cLine) (I:Inv X pins σ H s) (g:DGet H a y o) (ry:RelV y u) (h:∀s',Inv X pins σ H s'→Q (.bool o.isSome) s') :
  wpAny (model X.prog X.w) A (compareOp .In u (.ref a)) Q E s:=by
 rcases g with⟨kvs,k,e,ey,l⟩|⟨kvs,k,b,e,ey,eb,l⟩
 ·subst ey
  obtain⟨z,hd,vs,rel,dd⟩:=ϟz I.hok e
  refine wpAny_in_of (ϲS ry) hd dd.mapOf ?_
  rw[← (rel.val k).isSome_eq,← l]
  exact h _ (I.tok _)
 ·subst ey
  cases (show u=Value.ref b from ry)
  obtain⟨z,hd,xs,rel,dd⟩:=ϟD I.hok e
  refine wpAny_in_heap (tupleKind_room_in1 hu) (ϱ0 I.hok eb) hd dd ?_
  have q:=(rel.val k).isSome_eq
  rw[Option.isSome_map] at q
  rw[← q,← l]
  exact h _ (I.tok _)
theorem d_notIn {Q:Value→Shared→Prop} (hu:A.units+1 < cLine) (I:Inv X pins σ H s) (g:DGet H a y o) (ry:RelV y u) (h:∀s',Inv X pins σ H s'→Q (.bool (!o.isSome)) s') :
  wpAny (model X.prog X.w) A (compareOp .NotIn u (.ref a)) Q E s:=by
 rcases g with⟨kvs,k,e,ey,l⟩|⟨kvs,k,b,e,ey,eb,l⟩
 ·subst ey
  obtain⟨z,hd,vs,rel,dd⟩:=ϟz I.hok e
  refine wpAny_notIn_of (ϲS ry) hd dd.mapOf ?_
  rw[← (rel.val k).isSome_eq,← l]
  exact h _ (I.tok _)
 ·subst ey
  cases (show u=Value.ref b from ry)
  obtain⟨z,hd,xs,rel,dd⟩:=ϟD I.hok e
  refine wpAny_notIn_heap (tupleKind_room_in1 hu) (ϱ0 I.hok eb) hd dd ?_
  have q:=(rel.val k).isSome_eq
  rw[Option.isSome_map] at q
  rw[← q,← l]
  exact h _ (I.tok _)
theorem ϵD {h':Heap}{t':Nat}{ob:HO} (I:Inv X pins σ H s) (mu:Mut (H a)) (hs:Heap.SameBut a s.heap h') (he:∃q,h'.get? a=some q) (new:ObjOk X.prog X.w (upd H a ob) h' a ob) :
  Inv X pins σ (upd H a ob) { s with heap:=h',toks:=t' }:=
 I.write (x:=a) (e:=a) mu (.inl rfl) (fun b q hb z=>(hs.2 b hb).trans z) he new
theorem ϛV {P:Program}{w:World}{H':Hp}{h':Heap}{kvs:List (Key×V)}{vs:List (Key×Value)} (z:kvs.length≤sizeLine) (hd:(a == sysModules)=false) (rel:KV kvs vs) (dd:h'.DictOf (ϖv P w) a vs) :
  ObjOk P w H' h' a (.dK kvs):=⟨z,hd,vs,rel,dd⟩
theorem ϟ0 {H':Hp}{Q:Unit→Shared→Prop} (hu:A.units+1 < cLine) (I:Inv X pins σ H s) (g:DPut H a y v H') (ry:RelV y u) (rv:RelV v r) (h:∀s',Inv X pins σ H' s'→Q () s') :
  wpAny (model X.prog X.w) A (setItem (.ref a) u r) Q E s:=by
 rcases g with⟨kvs,k,e,ey,l,eH⟩|⟨kvs,k,b,e,ey,eb,l,eH⟩
 ·subst ey eH
  obtain⟨z,hd,vs,rel,dd⟩:=dk_of I.hok e
  have hz:vs.length≤sizeLine:=by rw[← rel.length];exact z
  have hl:(putK kvs k v).length≤sizeLine:=by have:=ϕm kvs k v;omega
  refine wpAny_setItem_pairs (hsz:=hz) (ϲS ry) dd fun h' dd' hs=>h _ ?_
  have he:∃q,h'.get? a=some q:=let ⟨q,_,_,hq,_⟩:=dd';⟨q,hq⟩
  exact ϵD I (by rw[e];exact True.intro) hs he (ϛV hl hd (rel.put k rv) dd')
 ·subst ey eH
  cases (show u=Value.ref b from ry)
  obtain⟨z,hd,xs,rel,dd⟩:=dt_of I.hok e
  have hz:xs.length≤sizeLine:=by rw[← Paired.length rel];exact z
  have hl:(putK kvs k v).length≤sizeLine:=by have:=ϕm kvs k v;omega
  refine wpAny_setItem_heap (hsz:=hz) (tupleKind_room_in1 hu) (ϱ0 I.hok eb) dd fun h' dd' hs=>h _ ?_
  obtain⟨q,es,ep,hq,h2,h3,h4,_,h5⟩:=dd'
  refine ϵD I (by rw[e];exact True.intro) hs ⟨q,hq⟩ ⟨hl,hd,_,(rel.put k eb rv).keeps fun c ys ec=>?_,q,es,ep,hq,h2,h3,h4,h5⟩
  rw[ϖp (ne_of ec e (fun z=>nomatch z))]
  exact ec
end
section
variable {X:Cx}{pins:List (Addr×Obj)}{σ:St}{H:Hp}{s:Shared}{a:Addr}{kvs:List (Key×V)}{k:Key}{u:Value}{A:Around}{E:Value→Shared→Prop}
end
def NoSl (i:Expr):Prop:=∀ov iv,subscripted i false ov iv=operate [ov,iv] (getItem ov iv)
theorem subD_of {prog:Program}{w:World}{A:Around}{E:Value→Shared→Prop}{s:Shared}{env:Env}{value slice:Expr}{pos:Pos}{T id:String}{Q:Value→Shared→Prop}
  (hl:typeLookup (.type T) "__getitem__"=pure (some (.builtin id))) (hs:NoSl slice)
  (h:wpAny (model prog w) A (eval value env) (fun o s₁=>wpAny (model prog w) A (eval slice env) (fun i s₂=>s₂.TypeIs o T∧wpAny (model prog w) A (getItem o i) Q E s₂) E s₁) E s) :
  wpAny (model prog w) A (eval (.Subscript value slice pos) env) Q E s:=by
 refine Subscript_ (wpAny_mono h (fun o s₁ h₁=>wpAny_mono h₁ (fun i s₂ h₂=>?_) fun _ _ x=>x) fun _ _ x=>x)
 obtain⟨hT,h₂⟩:=h₂
 unfold subscriptTail
 refine wpAny_bind ?_
 rw[getitemInPython_of_ne hT.not_modules]
 refine wpAny_bind (wpAny_specialOf hT hl ?_)
 have fin:wpAny (model prog w) A (subscripted slice false o i) (fun r s₃=>wpAny (model prog w) A (letTemporaryGo value o r >>= fun _=>pure r) Q E s₃) E s₂:=by
  rw[hs o i]
  exact wpAny_operating (wpAny_mono h₂ (fun r s₃ h₃=>wpAny_bind (wpAny_letTemporaryGo (wpAny_pure h₃))) fun _ _ x=>x)
 first
  |exact wpAny_pure (wpAny_bind fin)
  |exact wpAny_bind (wpAny_pure (wpAny_bind fin))
  |exact wpAny_bind fin
theorem ϡF {X:Cx}{pins:List (Addr×Obj)}{σ:St}{H:Hp}{s:Shared}{a:Addr}{y:V}{o:Option V} (I:Inv X pins σ H s) (g:DGet H a y o):s.TypeIs (.ref a) "dict":=by
 rcases g with⟨kvs,k,e,_,_⟩|⟨kvs,k,b,e,_,_,_⟩
 ·obtain⟨_,_,vs,_,dd⟩:=ϟz I.hok e
  exact dd.typeIs
 ·obtain⟨_,_,xs,_,dd⟩:=ϟD I.hok e
  exact dd.typeIs
def tDGet (td ty:TE):TE:=fun σ H Q=>td σ H fun x H1=>ty σ H1 fun y H2=>∃a v,x=.ref a∧DGet H2 a y (some v)∧Q v H2
def tDIn (ty td:TE):TE:=fun σ H Q=>ty σ H fun y H1=>td σ H1 fun x H2=>∃a o,x=.ref a∧DGet H2 a y o∧Q (.bl o.isSome) H2
def tDNotIn (ty td:TE):TE:=fun σ H Q=>ty σ H fun y H1=>td σ H1 fun x H2=>∃a o,x=.ref a∧DGet H2 a y o∧Q (.bl (!o.isSome)) H2
def sDPut (td ty tv:TE):TS:=fun D σ H=>tv σ H fun v H1=>td σ H1 fun x H2=>ty σ H2 fun y H3=>∃a H4,x=.ref a∧DPut H3 a y v H4∧D.nx σ H4
section
variable {X:Cx}{o i e value:Expr}{pos pos' tpos:Pos}{td ty tv:TE}
theorem ϕM (hu:X.A.units+1 < cLine) (ho:PE X o td) (hi:PE X i ty) (hs:NoSl i):PE X (.Subscript o i pos) (tDGet td ty):=by
 intro pins s σ H Q I h
 refine subD_of PySem.F.slot_dict_getitem.lookup hs (thn (ho pins s σ H _ I h) fun u s1 ⟨x,H1,I1,rx,q1⟩=>thn (hi pins s1 σ H1 _ I1 q1) fun iv s2 ⟨y,H2,I2,ry,a,v,ex,g,q2⟩=>?_)
 subst ex
 obtain rfl:u=Value.ref a:=rx
 exact⟨ϡF I2 g,ϝA hu I2 g ry fun w' s3 I3 rw'=>⟨v,H2,I3,rw',q2⟩⟩
theorem ϵw (hu:X.A.units+1 < cLine) (hi:PE X i ty) (ho:PE X o td):PC X .In i o (tDIn ty td):=by
 intro pins s σ H Q I h
 refine thn (hi pins s σ H _ I h) fun iv s1 ⟨y,H1,I1,ry,q1⟩=>thn (ho pins s1 σ H1 _ I1 q1) fun u s2 ⟨x,H2,I2,rx,a,ov,ex,g,q2⟩=>?_
 subst ex
 obtain rfl:u=Value.ref a:=rx
 exact d_in hu I2 g ry fun s3 I3=>⟨.bl ov.isSome,H2,I3,rfl,q2⟩
theorem ϰx (hu:X.A.units+1 < cLine) (hi:PE X i ty) (ho:PE X o td):PC X .NotIn i o (tDNotIn ty td):=by
 intro pins s σ H Q I h
 refine thn (hi pins s σ H _ I h) fun iv s1 ⟨y,H1,I1,ry,q1⟩=>thn (ho pins s1 σ H1 _ I1 q1) fun u s2 ⟨x,H2,I2,rx,a,ov,ex,g,q2⟩=>?_
 subst ex
 obtain rfl:u=Value.ref a:=rx
 exact d_notIn hu I2 g ry fun s3 I3=>⟨.bl (!ov.isSome),H2,I3,rfl,q2⟩
theorem ϰW (hu:X.A.units+1 < cLine) (ho:PE X o td) (hi:PE X i ty) (hv:PE X value tv) (hs:swapsWith value (some (.Subscript o i pos')) pos.line X.env=pure false) :
  PS X (.Assign [.Subscript o i pos'] value pos) (sDPut td ty tv):=by
 intro pins s σ H D I h
 refine wpAny_Assign_Subscript (thn (hv pins s σ H _ I h) fun r s1 ⟨v,H1,I1,rv,q1⟩=>thn (ho pins s1 σ H1 _ I1 q1) fun u s2 ⟨x,H2,I2,rx,q2⟩=>thn (hi pins s2 σ H2 _ I2 q2) fun iv s3 ⟨y,H3,I3,ry,a,H4,ex,g,q3⟩=>?_) hs
 subst ex
 obtain rfl:u=Value.ref a:=rx
 exact ϟ0 hu I3 g ry rv fun s4 I4=>⟨σ,H4,I4,q3⟩
end
theorem ϛw {P:Program}{w:World}{H:Hp} (h:Heap) (hb:sysModules < h.objs.size):ObjOk P w H (h.push { cls:=.type "dict",data:=.dict #[] }) h.objs.size (.dK []):=
 ⟨Nat.zero_le _,beq_eq_false_iff_ne.mpr (Ne.symm (Nat.ne_of_lt hb)),[],.nil,Heap.DictOf.new h⟩
theorem ϛx {P:Program}{w:World}{H:Hp} (h:Heap) (hb:sysModules < h.objs.size):ObjOk P w H (h.push { cls:=.type "dict",data:=.dict #[] }) h.objs.size (.dT []):=
 ⟨Nat.zero_le _,beq_eq_false_iff_ne.mpr (Ne.symm (Nat.ne_of_lt hb)),[],.nil,_,#[],0,Heap.get?_push_size _ rfl,⟨rfl,rfl,rfl⟩,rfl,rfl,List.nodup_nil⟩
def tDNewK:TE:=fun _ H Q=>∀p,H p=none→Q (.ref p) (upd H p (.dK []))
def tDNewT:TE:=fun _ H Q=>∀p,H p=none→Q (.ref p) (upd H p (.dT []))
section
variable {X:Cx}{pos:Pos}
theorem ϟk:PE X (.Dict [] [] pos) tDNewK:=fun pins s σ H Q I h=>
 wpAny_Dict_empty ⟨.ref s.heap.objs.size,_,I.laid (a:=s.heap.objs.size) (o:=.dK []) (t':=s.toks) (fun _ _ q=>Heap.get?_push_of_some _ q) (Nat.le_refl _) (ϛw s.heap I.big),rfl,h _ (I.hok.fresh (Nat.le_refl _))⟩
theorem ϰa:PE X (.Dict [] [] pos) tDNewT:=fun pins s σ H Q I h=>
 wpAny_Dict_empty ⟨.ref s.heap.objs.size,_,I.laid (a:=s.heap.objs.size) (o:=.dT []) (t':=s.toks) (fun _ _ q=>Heap.get?_push_of_some _ q) (Nat.le_refl _) (ϛx s.heap I.big),rfl,h _ (I.hok.fresh (Nat.le_refl _))⟩
end
def tPairs:List (TE×TE)→St→Hp→(List (V×V)→Hp→Prop)→Prop
 |[],_,H,Q=>Q [] H
 |(tk,tv)::r,σ,H,Q=>tk σ H fun x H1=>tv σ H1 fun y H2=>tPairs r σ H2 fun ps H3=>Q ((x,y)::ps) H3
section
variable {X:Cx}{pins:List (Addr×Obj)}{σ:St}{H:Hp}{s:Shared}{a:Addr}{y d:V}{u r:Value}{o:Option V}{A:Around}{E:Value→Shared→Prop}
theorem d_get2 {Q:Value→Shared→Prop} (hu:A.units+1 < cLine) (I:Inv X pins σ H s) (g:DGet H a y o) (ry:RelV y u) (rd:RelV d r) (h:∀w' s',Inv X pins σ H s'→RelV (o.getD d) w'→Q w' s') :
  wpAny (model X.prog X.w) A (call (.builtin "dict.get") [.ref a,u,r]) Q E s:=by
 rcases g with⟨kvs,k,e,ey,l⟩|⟨kvs,k,b,e,ey,eb,l⟩
 ·subst ey
  obtain⟨z,hd,vs,rel,dd⟩:=ϟz I.hok e
  refine call_meetsIn PySem.F.slot_dict_get dd.typeIs PySem.F.entry_dict_get (PySem.F.args_dict_get_3 _ _ _) (meets_dict_get_default (ϖv X.prog X.w) a (ϲS ry) hd r) ⟨_,dd.mapOf,h _ _ (I.tok _) ?_⟩
  rw[l]
  exact(rel.val k).getD rd
 ·subst ey
  cases (show u=Value.ref b from ry)
  obtain⟨z,hd,xs,rel,dd⟩:=ϟD I.hok e
  refine call_meetsIn PySem.F.slot_dict_get dd.typeIs PySem.F.entry_dict_get (PySem.F.args_dict_get_3 _ _ _) (meetsH_dict_get_default (tupleKind (ϖv X.prog X.w)) a b hd r) ⟨tupleKind_room_in1 hu,k,xs,ϱ0 I.hok eb,dd,h _ _ (I.tok _) ?_⟩
  rw[l]
  exact(rel.val k).getD rd
end
section
variable {X:Cx}{o e f:Expr}{apos cpos:Pos}{td ty tx:TE}
end
section
variable {X:Cx}{pins:List (Addr×Obj)}{σ:St}{H:Hp}{s:Shared}{a:Addr}{kvs:List (Key×V)}{A:Around}{E:Value→Shared→Prop}
end
section
variable {X:Cx}{pins:List (Addr×Obj)}{σ:St}{H:Hp}{s:Shared}{a:Addr}{y:V}{u:Value}{A:Around}{E:Value→Shared→Prop}
end
section
variable {X:Cx}
end
section
variable {κ:Type} [DecidableEq κ]
end
end L2
namespace L3
open PySem PySem.Spec PyProof.Rows L2
theorem ϑk:bootBuiltins "len"=some (.builtin "len"):=by decide +kernel
theorem bt_min:bootBuiltins "min"=some (.builtin "min"):=by decide +kernel
theorem bt_max:bootBuiltins "max"=some (.builtin "max"):=by decide +kernel
theorem ϑd:bootBuiltins "isinstance"=some (.builtin "isinstance"):=by decide +kernel
theorem bt_int:bootBuiltins "int"=some (.type "int"):=by decide +kernel
theorem ϛU:bootBuiltins "str"=some (.type "str"):=by decide +kernel
theorem bt_bool:bootBuiltins "bool"=some (.type "bool"):=by decide +kernel
theorem ϱb:bootBuiltins "list"=some (.type "list"):=by decide +kernel
theorem ϡJ:bootBuiltins "tuple"=some (.type "tuple"):=by decide +kernel
abbrev cl (z:Str):List Nat:=z.cps.toList
theorem ϱU {a b:Str} (h:cl a=cl b):a=b:=by
 cases a;cases b;congr 1;exact Array.ext' h
theorem ϖ5 (a b:Str):cl (a++b)=cl a++cl b:=by
 show(a.cps++b.cps).toList=_
 rw[Array.toList_append]
theorem ϖ6 (a:Str):(cl a).length=a.length:=by
 show a.cps.toList.length=a.cps.size
 rw[Array.length_toList]
section
variable {X:Cx}
theorem ϡD {x:Str}{T:String}{pos:Pos} (hg:Gl X x) (hm:X.mg x=none) (hv:bootBuiltins x=some (.type T)) (hn:x≠"__name__":=by decide) (hdb:(x == ("__debug__":Str))=false:=by decide) :
  PE X (.Name x pos) (tC (.ty T)):=pe_bltn (v:=.ty T) hg hm hv rfl hn hdb
theorem ϕL:CallR X (.builtin "isinstance") (fun xs H Q=>∃x T t b,xs=[x,.ty T]∧TyOf X.K H x t∧PySem.W.kitOne X.K t (.type T)=some b∧Q (.bl b) H):=by
 intro pins s σ H xs us Q I r h
 obtain⟨x,T,t,b,rfl,ty,e,q⟩:=h
 obtain⟨u,w',rfl,rx,rt⟩:=ϟy r
 cases rt
 exact ϕ9 I rx ty e fun tk=>⟨.bl b,H,I.tok _,rfl,q⟩
theorem is_str {K:PySem.W.Frag}:PySem.W.kitOne K (.type "str") (.type "str")=some true:=rfl
def Cal (P:Program) (w:World) (K:PySem.W.Frag) (mg:Str→Option Value) (base:Heap) (x:Str) (ps:List Str) (k:Nat) (sp:Sp):Prop:=
 ∃f fd,FnOk P w K mg base CX0 k f fd ps sp∧Binds K fd ps []∧PySem.W.keepIn K (.ref f)=true∧mg x=some (.ref f)
def tFn (sp:Sp) (t:TA):TE:=fun σ H Q=>t σ H fun vs H1=>sp vs H1 Q E0
theorem ϖM {x:Str}{ps:List Str}{k k':Nat}{sp:Sp}{p pos:Pos}{e:Expr}{es:List Expr}{t:TA} (C:Cal X.prog X.w X.K X.mg X.base x ps k sp) (hr:Room k' X.A) (hk:k≤k') (hg:Gl X x)
  (ha:PA X (e::es) t) (hdb:(x == ("__debug__":Str))=false:=by decide) (he:starEach (e::es) X.env=(false,eval e X.env)::starEach es X.env:=by rfl) (hpl:(backTo pos (starEach es X.env)).any (·.1)=false:=by rfl) :
  PE X (.Call (.Name x p) (e::es) [] pos) (tFn sp t):=by
 obtain⟨f,fd,F,b,kp,hm⟩:=C
 intro pins s σ H Q I h
 refine wpAny_Call_Name_kw (ϵY I hg hm ?_ hdb)
 refine PySem.W.callWith_K (h₀:=X.base) I.ok.mod.kin kp (thn (ha pos pins s σ H _ I h) fun us s1 ⟨vs,H1,I1,r,q⟩=>⟨I1.kIn,?_⟩) he hpl
 exact run_fn (dvs:=[]) F (hr.mono hk) b .nil pass0 I1 r (by rw[List.append_nil];exact q)
end
section
variable {X:Cx}
def tMid (t u:TS):TS:=fun D σ H=>∃M:L2.St→Hp→Prop,t { D with nx:=M } σ H∧∀σ' H',M σ' H'→u D σ' H'
theorem ϵa {st:Stmt}{rest:List Stmt}{t u:TS} (h1:PS X st t) (h2:PSs X rest u):PSs X (st::rest) (tMid t u):=by
 intro pins s σ H D I h
 obtain⟨M,ht,hu⟩:=h
 refine wpAny_execs_cons (thn (h1 pins s σ H { D with nx:=M } I ht) fun f s1 q=>?_)
 cases f with
 |next=>
  obtain⟨σ',H',I',q⟩:=q
  exact h2 pins s1 σ' H' D I' (hu σ' H' q)
 |ret v=>exact q
 |brk=>exact q
 |cont=>exact q
def tAbs (t:TE):TE:=fun σ H Q=>∃P:V→Hp→Prop,t σ H P∧∀v H',P v H'→Q v H'
theorem ϕF {e:Expr}{t:TE} (h:PE X e t):PE X e (tAbs t):=by
 intro pins s σ H Q I hw
 obtain⟨P,ht,hq⟩:=hw
 exact thn (h pins s σ H P I ht) fun u s1 ⟨v,H1,I1,r1,q1⟩=>⟨v,H1,I1,r1,hq v H1 q1⟩
def ϝE (K:PySem.W.Frag):R2:=fun x y H Q=>∃p xs i,x=.ref p∧y=.int i∧SqL K H p xs∧0≤i∧i < xs.length∧∃W:V→Prop,(∀ v∈xs,W v)∧∀v,W v→Q v H
theorem ϵ2:IxR X (ϝE X.K):=by
 intro value slice pins s σ H x y v u Q I rx ry h hs
 obtain⟨p,xs,i,rfl,rfl,hq,h0,h1,W,hW,q⟩:=h
 obtain⟨n,rfl⟩:=Int.eq_ofNat_of_zero_le h0
 have hn:n < xs.length:=by omega
 exact ϑj value slice pins s σ H _ _ v u Q I rx ry ⟨p,xs,_,xs[n],rfl,rfl,hq,ϖ9 (by rw[List.getElem?_eq_getElem hn]),q _ (hW _ (List.getElem_mem hn))⟩ hs
end
theorem pz {j:Int} (h:decide (0 < j)=true:=by decide):0 < j:=of_decide_eq_true h
theorem iteD {c A B:Prop} [Decidable c] (hc:¬ c) (h:B):if decide c=true then A else B:=by
 rw[decide_eq_false hc]
 exact iteF h
theorem ϛl {c A B:Prop} [Decidable c] (hc:c) (h:A):if decide c=true then A else B:=by
 rw[decide_eq_true hc]
 exact iteT h
theorem ϑ8 {c A B:Prop} [Decidable c] (h1:c→A) (h2:¬ c→B):if decide c=true then A else B:=by
 by_cases h:c
 ·exact ϛl h (h1 h)
 ·exact iteD h (h2 h)
theorem ϰX {c A B:Prop} [Decidable c] (h1:¬ c→A) (h2:c→B):if (!decide c)=true then A else B:=by
 by_cases h:c
 ·rw[decide_eq_true h];exact iteF (h2 h)
 ·rw[decide_eq_false h];exact iteT (h1 h)
theorem ϖg {H:Hp}{p:Addr} (h:H p=none) (o:HO):Same H (upd H p o):=fun b u q=>by rw[ϖp (ϖs q h)];exact q
theorem ϡ9 {α:Type}{xs:List α}{i:Int} (h0:0≤i) (h1:i < xs.length):∃v,atI xs i=some v∧v∈xs:=by
 obtain⟨n,rfl⟩:=Int.eq_ofNat_of_zero_le h0
 have hn:n < xs.length:=by omega
 exact⟨xs[n],ϖ9 (by rw[List.getElem?_eq_getElem hn]),List.getElem_mem hn⟩
theorem at_some {α:Type}{xs:List α}{i:Int} (h0:0≤i) (h1:i < xs.length):∃v,atI xs i=some v∧xs[i.toNat]?=some v:=by
 obtain⟨n,rfl⟩:=Int.eq_ofNat_of_zero_le h0
 have hn:n < xs.length:=by omega
 exact⟨xs[n],ϖ9 (by rw[List.getElem?_eq_getElem hn]),by simp[hn]⟩
theorem szl {n:Nat} (h:n≤100000):n≤sizeLine:=Nat.le_trans h (by rw[sizeLine_eq];decide)
end L3
namespace L3
open PySem PySem.Spec PyProof.Rows L2
theorem ϑK {K:PySem.W.Frag}{a:Addr}{xs:List V}{g:TG}{tb:TS}{D:Ends}{σ:L2.St}{H:Hp} (Pv:Nat→L2.St→Hp→Prop) (h0:Pv 0 σ H) (hl:∀i σ H,i≤xs.length→Pv i σ H→SqL K H a xs)
  (hs:∀(b:L2.St→Hp→Prop) (r:VK),b=D.nx→r=D.rt→∀i x σ H,xs[i]?=some x→Pv i σ H→g x σ H fun σ2 H2=>tb { nx:=Pv (i+1),rt:=r,bk:=b,ct:=Pv (i+1) } σ2 H2) (hd:∀σ H,Pv xs.length σ H→D.nx σ H) :
  ∃W:Nat→Nat→L2.St→Hp→Prop,(∃ m,W 0 m σ H)∧∀i m σ H,W i m σ H →
   ((Itl K a).stop i H∧D.nx σ H)∨((Itl K a).go i H∧∃N:L2.St→Hp→Prop,(∀ σ' H',N σ' H'→∃m',m' < m∧W (i+1) m' σ' H')∧∀x H',(Itl K a).yld i H x H'→g x σ H' fun σ2 H2=>tb { D with nx:=N,ct:=N,bk:=D.nx } σ2 H2):=ϡQ Pv h0 hl (hs _ _ rfl rfl) hd
theorem ϕc {lo:Int}{n:Nat}{g:TG}{tb:TS}{D:Ends}{σ:L2.St}{H:Hp} (Pv:Nat→L2.St→Hp→Prop) (h0:Pv 0 σ H)
  (hs:∀(b:L2.St→Hp→Prop) (r:VK),b=D.nx→r=D.rt→∀i σ H,i < n→Pv i σ H→g (.int (lo+i)) σ H fun σ2 H2=>tb { nx:=Pv (i+1),rt:=r,bk:=b,ct:=Pv (i+1) } σ2 H2) (hd:∀σ H,Pv n σ H→D.nx σ H) :
  ∃W:Nat→Nat→L2.St→Hp→Prop,(∃ m,W 0 m σ H)∧∀i m σ H,W i m σ H →
   ((Itr lo n).stop i H∧D.nx σ H)∨((Itr lo n).go i H∧∃N:L2.St→Hp→Prop,(∀ σ' H',N σ' H'→∃m',m' < m∧W (i+1) m' σ' H')∧∀x H',(Itr lo n).yld i H x H'→g x σ H' fun σ2 H2=>tb { D with nx:=N,ct:=N,bk:=D.nx } σ2 H2):=ϟZ Pv h0 (hs _ _ rfl rfl) hd
end L3
namespace L3
open PySem PySem.Spec PyProof.Rows L2 PySem.SeqAt
inductive D where
 |non|bl (b:Bool)|int (i:Int)|str (x:Str)|tup (xs:List D)|lst (xs:List D)
mutual
def Rep (K:PySem.W.Frag) (H:Hp):D→V→Prop
 |.non,v=>v=.non
 |.bl b,v=>v=.bl b
 |.int i,v=>v=.int i
 |.str x,v=>v=.str x
 |.tup ds,v=>∃a xs,v=.ref a∧SqT K H a xs∧Reps K H ds xs
 |.lst ds,v=>∃a xs,v=.ref a∧SqL K H a xs∧Reps K H ds xs
def Reps (K:PySem.W.Frag) (H:Hp):List D→List V→Prop
 |[],vs=>vs=[]
 |d::ds,vs=>∃v r,vs=v::r∧Rep K H d v∧Reps K H ds r
end
theorem Same.seqT {K:PySem.W.Frag}{H H':Hp}{a:Addr}{xs:List V} (e:Same H H') (h:SqT K H a xs):SqT K H' a xs:=by
 rcases h with (h|⟨o,h⟩)|h
 ·exact .inl (.inl (e _ _ h))
 ·exact .inl (.inr ⟨o,e _ _ h⟩)
 ·exact .inr h
mutual
theorem Rep.mono {K:PySem.W.Frag}{H H':Hp} (g:Same H H'):∀(d:D) (v:V),Rep K H d v→Rep K H' d v
 |.non,_,h=>by unfold Rep at h⊢;exact h
 |.bl _,_,h=>by unfold Rep at h⊢;exact h
 |.int _,_,h=>by unfold Rep at h⊢;exact h
 |.str _,_,h=>by unfold Rep at h⊢;exact h
 |.tup ds,_,h=>by
  unfold Rep at h⊢
  obtain⟨a,xs,e,q,r⟩:=h
  exact⟨a,xs,e,Same.seqT g q,Reps.mono g ds xs r⟩
 |.lst ds,_,h=>by
  unfold Rep at h⊢
  obtain⟨a,xs,e,q,r⟩:=h
  exact⟨a,xs,e,g.seq q,Reps.mono g ds xs r⟩
theorem Reps.mono {K:PySem.W.Frag}{H H':Hp} (g:Same H H'):∀(ds:List D) (vs:List V),Reps K H ds vs→Reps K H' ds vs
 |[],_,h=>by unfold Reps at h⊢;exact h
 |d::ds,_,h=>by
  unfold Reps at h⊢
  obtain⟨v,r,e,q,t⟩:=h
  exact⟨v,r,e,Rep.mono g d v q,Reps.mono g ds r t⟩
end
theorem Reps.nil {K:PySem.W.Frag}{H:Hp}:Reps K H [] []:=by unfold Reps;rfl
theorem Reps.cons {K:PySem.W.Frag}{H:Hp}{d:D}{v:V}{ds:List D}{vs:List V} (h:Rep K H d v) (t:Reps K H ds vs):Reps K H (d::ds) (v::vs):=by
 unfold Reps;exact⟨v,vs,rfl,h,t⟩
theorem Reps.inv {K:PySem.W.Frag}{H:Hp}{d:D}{ds:List D}{vs:List V} (h:Reps K H (d::ds) vs):∃v r,vs=v::r∧Rep K H d v∧Reps K H ds r:=by
 unfold Reps at h;exact h
theorem Reps.inv0 {K:PySem.W.Frag}{H:Hp}{vs:List V} (h:Reps K H [] vs):vs=[]:=by
 unfold Reps at h;exact h
theorem Reps.length {K:PySem.W.Frag}{H:Hp}:∀{ds:List D}{vs:List V},Reps K H ds vs→ds.length=vs.length
 |[],_,h=>by rw[h.inv0];rfl
 |d::ds,_,h=>by
  obtain⟨v,r,rfl,_,t⟩:=h.inv
  rw[List.length_cons,List.length_cons,Reps.length t]
mutual
def eqD:D→D→Bool
 |.non,.non=>true
 |.bl a,.bl b=>a == b
 |.bl a,.int b=>(if a then 1 else 0) == b
 |.int a,.bl b=>a == (if b then 1 else 0)
 |.int a,.int b=>a == b
 |.str a,.str b=>a == b
 |.tup xs,.tup ys=>eqDs xs ys
 |.lst xs,.lst ys=>eqDs xs ys
 |_,_=>false
def eqDs:List D→List D→Bool
 |[],[]=>true
 |x::xs,y::ys=>eqD x y && eqDs xs ys
 |_,_=>false
end
mutual
def deep:D→Nat
 |.tup xs=>ϰs xs+1
 |.lst xs=>ϰs xs+1
 |_=>0
def ϰs:List D→Nat
 |[]=>0
 |x::xs=>max (deep x) (ϰs xs)
end
mutual
theorem ϰb:∀d:D,eqD d d=true
 |.non=>by simp[eqD]
 |.bl b=>by simp[eqD]
 |.int i=>by simp[eqD]
 |.str x=>by simp[eqD]
 |.tup xs=>by rw[eqD];exact ϱ9 xs
 |.lst xs=>by rw[eqD];exact ϱ9 xs
theorem ϱ9:∀xs:List D,eqDs xs xs=true
 |[]=>by simp[eqDs]
 |x::xs=>by rw[eqDs,ϰb x,ϱ9 xs];rfl
end
mutual
def noB:D→Bool
 |.bl _=>false
 |.tup xs=>noBs xs
 |.lst xs=>noBs xs
 |_=>true
def noBs:List D→Bool
 |[]=>true
 |x::xs=>noB x && noBs xs
end
mutual
theorem eqD_eq:∀d e:D,noB d=true→noB e=true→eqD d e=true→d=e
 |.non,e,_,h2,h=>by cases e<;>simp_all [eqD]
 |.bl b,e,h1,_,_=>by simp[noB] at h1
 |.int i,e,_,h2,h=>by cases e<;>simp_all [eqD,noB]
 |.str x,e,_,h2,h=>by cases e<;>simp_all [eqD]
 |.tup xs,e,h1,h2,h=>by
  cases e<;>simp only[eqD,noB,Bool.false_eq_true] at h1 h2 h
  rw[ϡw _ _ h1 h2 h]
 |.lst xs,e,h1,h2,h=>by
  cases e<;>simp only[eqD,noB,Bool.false_eq_true] at h1 h2 h
  rw[ϡw _ _ h1 h2 h]
theorem ϡw:∀xs ys:List D,noBs xs=true→noBs ys=true→eqDs xs ys=true→xs=ys
 |[],ys,_,_,h=>by cases ys<;>simp_all [eqDs]
 |x::xs,ys,h1,h2,h=>by
  cases ys with
  |nil=>simp[eqDs] at h
  |cons y ys=>
   simp only[eqDs,noBs,Bool.and_eq_true] at h1 h2 h
   rw[eqD_eq x y h1.1 h2.1 h.1,ϡw xs ys h1.2 h2.2 h.2]
end
def ϕa (xs ys:List D) (j:Nat):Bool:=match xs[j]?,ys[j]? with
 |some x,some y=>eqD x y
 |_,_=>false
theorem ϱw:∀xs ys:List D,eqDs xs ys=((List.range (min xs.length ys.length)).all (ϕa xs ys) && (xs.length == ys.length))
 |[],[]=>by simp[eqDs]
 |[],y::ys=>by simp[eqDs]
 |x::xs,[]=>by simp[eqDs]
 |x::xs,y::ys=>by
  have ih:=ϱw xs ys
  have e:min (x::xs).length (y::ys).length=min xs.length ys.length+1:=by simp only[List.length_cons];omega
  have p:ϕa (x::xs) (y::ys)∘Nat.succ=ϕa xs ys:=by
   funext j;simp[ϕa]
  rw[eqDs,e,List.range_succ_eq_map,List.all_cons,List.all_map,p,ih]
  have q:ϕa (x::xs) (y::ys) 0=eqD x y:=by simp[ϕa]
  have l:((x::xs).length == (y::ys).length)=(xs.length == ys.length):=by
   simp only[List.length_cons]
   by_cases h:xs.length=ys.length<;>simp[h]
  rw[q,l,Bool.and_assoc]
section
variable {X:Cx}{pins:List (Addr×Obj)}{σ:L2.St}{H:Hp}{s:Shared}
mutual
theorem Rep.inj (I:Inv X pins σ H s):∀(d e:D) (v:V),Rep X.K H d v→Rep X.K H e v→d=e
 |.non,e,v,h,k=>by unfold Rep at h;subst h;cases e<;>simp[Rep] at k<;>rfl
 |.bl b,e,v,h,k=>by unfold Rep at h;subst h;cases e<;>simp[Rep] at k;rw[k]
 |.int i,e,v,h,k=>by unfold Rep at h;subst h;cases e<;>simp[Rep] at k;rw[k]
 |.str x,e,v,h,k=>by unfold Rep at h;subst h;cases e<;>simp[Rep] at k;rw[k]
 |.tup ds,e,v,h,k=>by
  unfold Rep at h
  obtain⟨a,xs,rfl,q,r⟩:=h
  cases e with
  |tup es=>
   unfold Rep at k
   obtain⟨b,ys,e1,q2,r2⟩:=k
   cases e1
   have:=I.tuple_inj q q2
   subst this
   rw[Reps.inj I ds es xs r r2]
  |lst es=>
   unfold Rep at k
   obtain⟨b,ys,e1,q2,r2⟩:=k
   cases e1
   obtain⟨i1,_,t1,_⟩:=I.tuple q
   obtain⟨i2,_,t2,_⟩:=I.list q2
   exact absurd rfl (ne_of_list_tuple t2.isList (let ⟨o,h1,h2,n,h3⟩:=t1;⟨o,h1,h2,n,h3⟩))
  |_=>simp[Rep] at k
 |.lst ds,e,v,h,k=>by
  unfold Rep at h
  obtain⟨a,xs,rfl,q,r⟩:=h
  cases e with
  |lst es=>
   unfold Rep at k
   obtain⟨b,ys,e1,q2,r2⟩:=k
   cases e1
   have:=I.list_inj q q2
   subst this
   rw[Reps.inj I ds es xs r r2]
  |tup es=>
   unfold Rep at k
   obtain⟨b,ys,e1,q2,r2⟩:=k
   cases e1
   obtain⟨i1,_,t1,_⟩:=I.tuple q2
   obtain⟨i2,_,t2,_⟩:=I.list q
   exact absurd rfl (ne_of_list_tuple t2.isList (let ⟨o,h1,h2,n,h3⟩:=t1;⟨o,h1,h2,n,h3⟩))
  |_=>simp[Rep] at k
theorem Reps.inj (I:Inv X pins σ H s):∀(ds es:List D) (vs:List V),Reps X.K H ds vs→Reps X.K H es vs→ds=es
 |[],es,vs,h,k=>by
  rw[h.inv0] at k
  cases es with
  |nil=>rfl
  |cons e es=>obtain⟨_,_,z,_⟩:=k.inv;cases z
 |d::ds,es,vs,h,k=>by
  obtain⟨v,r,rfl,q,t⟩:=h.inv
  cases es with
  |nil=>have z:=k.inv0;cases z
  |cons e es=>
   obtain⟨_,_,z,q2,t2⟩:=k.inv
   cases z
   rw[Rep.inj I d e v q q2,Reps.inj I ds es r t t2]
end
end
end L3
namespace L3
open PySem PySem.Spec PyProof.Rows L2 PySem.SeqAt
section
variable {X:Cx}{pins:List (Addr×Obj)}{σ:L2.St}{H:Hp}{s:Shared}{A:Around}
theorem ϰF (A:Around):A.in1.units=A.units+1:=rfl
abbrev Elts (A:Around) (s:Shared) (xs ys:List V) (ds es:List D):Prop:=
 ∀us ws,Vals xs us→Vals ys ws→∀(j:Nat) v u,us[j]?=some v→ws[j]?=some u→EqAt A s v u (ϕa ds es j)
theorem ϛ6 {a b:Addr}{xs ys:List V}{ds es:List D} (I:Inv X pins σ H s) (q:SqT X.K H a xs) (r:Reps X.K H ds xs) (q2:SqT X.K H b ys) (r2:Reps X.K H es ys) (hu:A.units < cLine) (he:Elts A.in1 s xs ys ds es) :
  RcAt A s (.ref a) (.ref b) (eqDs ds es)∧RcNeAt A s (.ref a) (.ref b) (!eqDs ds es):=by
 obtain⟨us,rv,t1,_⟩:=I.tuple q
 obtain⟨ws,rw',t2,_⟩:=I.tuple q2
 have l1:us.toArray.size=ds.length:=by rw[List.size_toArray,← rv.length,r.length]
 have l2:ws.toArray.size=es.length:=by rw[List.size_toArray,← rw'.length,r2.length]
 have el:∀j (h1:j < us.toArray.size) (h2:j < ws.toArray.size),EqAt A.in1 s us.toArray[j] ws.toArray[j] (ϕa ds es j):=fun j h1 h2=>
  he us ws rv rw' j _ _ (by simp at h1⊢) (by simp at h2⊢)
 have e:=RcAt.tuples (A:=A) (s:=s) (l:=a) (b:=b) t1 t2 hu el
 have n:=RcNeAt.tuples (A:=A) (s:=s) (l:=a) (b:=b) t1 t2 hu el
 rw[l1,l2,← ϱw] at e n
 exact⟨e,n⟩
theorem ϛW {a b:Addr}{xs ys:List V}{ds es:List D} (I:Inv X pins σ H s) (q:SqL X.K H a xs) (r:Reps X.K H ds xs) (q2:SqL X.K H b ys) (r2:Reps X.K H es ys) (hu:A.units < cLine) (he:Elts A.in1 s xs ys ds es) :
  RcAt A s (.ref a) (.ref b) (eqDs ds es)∧RcNeAt A s (.ref a) (.ref b) (!eqDs ds es):=by
 obtain⟨us,rv,t1,_⟩:=I.list q
 obtain⟨ws,rw',t2,_⟩:=I.list q2
 have l1:us.toArray.size=ds.length:=by rw[List.size_toArray,← rv.length,r.length]
 have l2:ws.toArray.size=es.length:=by rw[List.size_toArray,← rw'.length,r2.length]
 have el:∀j (h1:j < us.toArray.size) (h2:j < ws.toArray.size),EqAt A.in1 s us.toArray[j] ws.toArray[j] (ϕa ds es j):=fun j h1 h2=>
  he us ws rv rw' j _ _ (by simp at h1⊢) (by simp at h2⊢)
 by_cases hl:ds.length=es.length
 ·have e:=RcAt.lists (A:=A) (s:=s) (l:=a) (b:=b) t1.isList t2.isList (by omega) hu el
  have n:=RcNeAt.lists (A:=A) (s:=s) (l:=a) (b:=b) t1.isList t2.isList (by omega) hu el
  have z:eqDs ds es=(List.range ds.length).all (ϕa ds es):=by
   rw[ϱw,hl];simp
  rw[l1,← z] at e n
  exact⟨e,n⟩
 ·have hs:(us.toArray.size != ws.toArray.size)=true:=by rw[l1,l2];simpa using hl
  have e:=RcAt.lists_lengths (A:=A) (s:=s) (l:=a) (b:=b) t1.isList t2.isList hs hu
  have n:=RcNeAt.lists_lengths (A:=A) (s:=s) (l:=a) (b:=b) t1.isList t2.isList hs hu
  have z:eqDs ds es=false:=by
   rw[ϱw];simp[hl]
  rw[z]
  exact⟨e,n⟩
mutual
theorem eqAtD (I:Inv X pins σ H s):∀(d e:D) (A:Around) (v u:V) (v' u':Value),Rep X.K H d v→Rep X.K H e u→RelV v v'→RelV u u'→A.units+deep d < cLine→EqAt A s v' u' (eqD d e)
 |.non,e,A,v,u,v',u',hd,he,rv,ru,hu=>by
  unfold Rep at hd;subst hd;cases rv
  cases e<;>unfold Rep at he
  ·subst he;cases ru;exact EqAt.same _
  ·subst he;cases ru;exact EqAt.none_bool _
  ·subst he;obtain⟨t,rfl⟩:=ru;exact EqAt.none_int _ _
  ·subst he;obtain⟨t,rfl⟩:=ru;exact EqAt.none_str _ _
  ·obtain⟨a,xs,rfl,q,_⟩:=he;cases ru;obtain⟨_,_,t,_⟩:=I.tuple q;exact EqAt.none_tuple t (by omega)
  ·obtain⟨a,xs,rfl,q,_⟩:=he;cases ru;obtain⟨_,_,t,_⟩:=I.list q;exact EqAt.none_list t.isList (by omega)
 |.bl b,e,A,v,u,v',u',hd,he,rv,ru,hu=>by
  unfold Rep at hd;subst hd;cases rv
  cases e<;>unfold Rep at he
  ·subst he;cases ru;exact EqAt.bool_none _
  ·subst he;cases ru;exact EqAt.bool_bool _ _
  ·subst he;obtain⟨t,rfl⟩:=ru;exact EqAt.bool_int _ _ _
  ·subst he;obtain⟨t,rfl⟩:=ru;exact EqAt.bool_str _ _ _
  ·obtain⟨a,xs,rfl,q,_⟩:=he;cases ru;obtain⟨_,_,t,_⟩:=I.tuple q;exact EqAt.bool_tuple _ t (by omega)
  ·obtain⟨a,xs,rfl,q,_⟩:=he;cases ru;obtain⟨_,_,t,_⟩:=I.list q;exact EqAt.bool_list _ t.isList (by omega)
 |.int i,e,A,v,u,v',u',hd,he,rv,ru,hu=>by
  unfold Rep at hd;subst hd;obtain⟨t0,rfl⟩:=rv
  cases e<;>unfold Rep at he
  ·subst he;cases ru;exact EqAt.int_none _ _
  ·subst he;cases ru;exact EqAt.int_bool _ _ _
  ·subst he;obtain⟨t,rfl⟩:=ru;exact EqAt.int_int _ _ _ _
  ·subst he;obtain⟨t,rfl⟩:=ru;exact EqAt.int_str _ _ _ _
  ·obtain⟨a,xs,rfl,q,_⟩:=he;cases ru;obtain⟨_,_,t,_⟩:=I.tuple q;exact EqAt.int_tuple _ _ t (by omega)
  ·obtain⟨a,xs,rfl,q,_⟩:=he;cases ru;obtain⟨_,_,t,_⟩:=I.list q;exact EqAt.int_list _ _ t.isList (by omega)
 |.str x,e,A,v,u,v',u',hd,he,rv,ru,hu=>by
  unfold Rep at hd;subst hd;obtain⟨t0,rfl⟩:=rv
  cases e<;>unfold Rep at he
  ·subst he;cases ru;exact EqAt.str_none _ _
  ·subst he;cases ru;exact EqAt.str_bool _ _ _
  ·subst he;obtain⟨t,rfl⟩:=ru;exact EqAt.str_int _ _ _ _
  ·subst he;obtain⟨t,rfl⟩:=ru;exact EqAt.str_str _ _ _ _
  ·obtain⟨a,xs,rfl,q,_⟩:=he;cases ru;obtain⟨_,_,t,_⟩:=I.tuple q;exact EqAt.str_tuple _ _ t (by omega)
  ·obtain⟨a,xs,rfl,q,_⟩:=he;cases ru;obtain⟨_,_,t,_⟩:=I.list q;exact EqAt.str_list _ _ t.isList (by omega)
 |.tup ds,e,A,v,u,v',u',hd,he,rv,ru,hu=>by
  have hd0:=hd
  have he0:=he
  unfold Rep at hd
  obtain⟨a,xs,rfl,q,r⟩:=hd
  cases rv
  rw[deep] at hu
  obtain⟨_,_,t0,_⟩:=I.tuple q
  cases e<;>unfold Rep at he
  ·subst he;cases ru;exact EqAt.tuple_none t0 (by omega)
  ·subst he;cases ru;exact EqAt.tuple_bool _ t0 (by omega)
  ·subst he;obtain⟨t,rfl⟩:=ru;exact EqAt.tuple_int _ _ t0 (by omega)
  ·subst he;obtain⟨t,rfl⟩:=ru;exact EqAt.tuple_str _ _ t0 (by omega)
  ·rename_i es
   obtain⟨b,ys,rfl,q2,r2⟩:=he
   cases ru
   by_cases hab:a=b
   ·subst hab
    rw[Rep.inj I _ _ _ hd0 he0,ϰb]
    exact EqAt.same _
   ·rw[eqD]
    exact EqAt.of_refs hab (ϛ6 I q r q2 r2 (by omega) fun us ws w1 w2 j v u e1 e2=>ϲT I ds es A.in1 xs ys us ws r r2 w1 w2 (by rw[ϰF];omega) j v u e1 e2).1
  ·obtain⟨b,ys,rfl,q2,r2⟩:=he
   cases ru
   obtain⟨_,_,t,_⟩:=I.list q2
   exact EqAt.tuple_list t0 t.isList (by omega)
 |.lst ds,e,A,v,u,v',u',hd,he,rv,ru,hu=>by
  have hd0:=hd
  have he0:=he
  unfold Rep at hd
  obtain⟨a,xs,rfl,q,r⟩:=hd
  cases rv
  rw[deep] at hu
  obtain⟨_,_,t0,_⟩:=I.list q
  cases e<;>unfold Rep at he
  ·subst he;cases ru;exact EqAt.list_none t0.isList (by omega)
  ·subst he;cases ru;exact EqAt.list_bool _ t0.isList (by omega)
  ·subst he;obtain⟨t,rfl⟩:=ru;exact EqAt.list_int _ _ t0.isList (by omega)
  ·subst he;obtain⟨t,rfl⟩:=ru;exact EqAt.list_str _ _ t0.isList (by omega)
  ·obtain⟨b,ys,rfl,q2,r2⟩:=he
   cases ru
   obtain⟨_,_,t,_⟩:=I.tuple q2
   exact EqAt.list_tuple t0.isList t (by omega)
  ·rename_i es
   obtain⟨b,ys,rfl,q2,r2⟩:=he
   cases ru
   by_cases hab:a=b
   ·subst hab
    rw[Rep.inj I _ _ _ hd0 he0,ϰb]
    exact EqAt.same _
   ·rw[eqD]
    exact EqAt.of_refs hab (ϛW I q r q2 r2 (by omega) fun us ws w1 w2 j v u e1 e2=>ϲT I ds es A.in1 xs ys us ws r r2 w1 w2 (by rw[ϰF];omega) j v u e1 e2).1
theorem ϲT (I:Inv X pins σ H s):∀(ds es:List D) (A:Around) (xs ys:List V) (us ws:List Value),Reps X.K H ds xs→Reps X.K H es ys→Vals xs us→Vals ys ws→A.units+ϰs ds < cLine →
  ∀(j:Nat) v u,us[j]?=some v→ws[j]?=some u→EqAt A s v u (ϕa ds es j)
 |[],es,A,xs,ys,us,ws,hd,he,rv,ru,hu,j,v,u,e1,e2=>by
  rw[hd.inv0] at rv;cases rv;simp at e1
 |d::ds,[],A,xs,ys,us,ws,hd,he,rv,ru,hu,j,v,u,e1,e2=>by
  rw[he.inv0] at ru;cases ru;simp at e2
 |d::ds,e::es,A,xs,ys,us,ws,hd,he,rv,ru,hu,j,v,u,e1,e2=>by
  obtain⟨x,xs,rfl,hx,hxs⟩:=hd.inv
  obtain⟨y,ys,rfl,hy,hys⟩:=he.inv
  rw[ϰs] at hu
  cases rv with
  |cons rv1 rv2=>
   cases ru with
   |cons ru1 ru2=>
    cases j with
    |zero=>
     simp at e1 e2
     subst e1 e2
     have p:ϕa (d::ds) (e::es) 0=eqD d e:=by simp[ϕa]
     rw[p]
     exact eqAtD I d e A x y _ _ hx hy rv1 ru1 (by omega)
    |succ j=>
     have p:ϕa (d::ds) (e::es) (j+1)=ϕa ds es j:=by simp[ϕa]
     rw[p]
     exact ϲT I ds es A xs ys _ _ hxs hys rv2 ru2 (by omega) j v u (by simpa using e1) (by simpa using e2)
end
theorem rcD (I:Inv X pins σ H s) (d e:D) {v u:V}{v' u':Value} (hd:Rep X.K H d v) (he:Rep X.K H e u) (rv:RelV v v') (ru:RelV u u') (hu:A.units+deep d < cLine):RcAt A s v' u' (eqD d e)∧RcNeAt A s v' u' (!eqD d e):=by
 cases d with
 |non=>
  unfold Rep at hd
  subst hd;cases rv
  cases e with
  |non=>
   unfold Rep at he
   subst he;cases ru
   exact⟨RcAt.none_none ,RcNeAt.none_none ⟩
  |bl b1=>
   unfold Rep at he
   subst he;cases ru
   exact⟨RcAt.none_bool _ ,RcNeAt.none_bool _ ⟩
  |int i1=>
   unfold Rep at he
   subst he;obtain⟨t1,rfl⟩:=ru
   exact⟨RcAt.none_int _ _ ,RcNeAt.none_int _ _ ⟩
  |str x1=>
   unfold Rep at he
   subst he;obtain⟨t1,rfl⟩:=ru
   exact⟨RcAt.none_str _ _ ,RcNeAt.none_str _ _ ⟩
  |tup es=>
   unfold Rep at he
   obtain⟨b,ys,rfl,q2,r2⟩:=he
   cases ru
   obtain⟨_,_,t1,_⟩:=I.tuple q2
   exact⟨RcAt.none_tuple t1 (by omega),RcNeAt.none_tuple t1 (by omega)⟩
  |lst es=>
   unfold Rep at he
   obtain⟨b,ys,rfl,q2,r2⟩:=he
   cases ru
   obtain⟨_,_,t1,_⟩:=I.list q2
   exact⟨RcAt.none_list t1.isList (by omega),RcNeAt.none_list t1.isList (by omega)⟩
 |bl b0=>
  unfold Rep at hd
  subst hd;cases rv
  cases e with
  |non=>
   unfold Rep at he
   subst he;cases ru
   exact⟨RcAt.bool_none _ ,RcNeAt.bool_none _ ⟩
  |bl b1=>
   unfold Rep at he
   subst he;cases ru
   exact⟨RcAt.bool_bool _ _ ,RcNeAt.bool_bool _ _ ⟩
  |int i1=>
   unfold Rep at he
   subst he;obtain⟨t1,rfl⟩:=ru
   exact⟨RcAt.bool_int _ _ _ ,RcNeAt.bool_int _ _ _ ⟩
  |str x1=>
   unfold Rep at he
   subst he;obtain⟨t1,rfl⟩:=ru
   exact⟨RcAt.bool_str _ _ _ ,RcNeAt.bool_str _ _ _ ⟩
  |tup es=>
   unfold Rep at he
   obtain⟨b,ys,rfl,q2,r2⟩:=he
   cases ru
   obtain⟨_,_,t1,_⟩:=I.tuple q2
   exact⟨RcAt.bool_tuple _ t1 (by omega),RcNeAt.bool_tuple _ t1 (by omega)⟩
  |lst es=>
   unfold Rep at he
   obtain⟨b,ys,rfl,q2,r2⟩:=he
   cases ru
   obtain⟨_,_,t1,_⟩:=I.list q2
   exact⟨RcAt.bool_list _ t1.isList (by omega),RcNeAt.bool_list _ t1.isList (by omega)⟩
 |int i0=>
  unfold Rep at hd
  subst hd;obtain⟨t0,rfl⟩:=rv
  cases e with
  |non=>
   unfold Rep at he
   subst he;cases ru
   exact⟨RcAt.int_none _ _ ,RcNeAt.int_none _ _ ⟩
  |bl b1=>
   unfold Rep at he
   subst he;cases ru
   exact⟨RcAt.int_bool _ _ _ ,RcNeAt.int_bool _ _ _ ⟩
  |int i1=>
   unfold Rep at he
   subst he;obtain⟨t1,rfl⟩:=ru
   exact⟨RcAt.int_int _ _ _ _ ,RcNeAt.int_int _ _ _ _ ⟩
  |str x1=>
   unfold Rep at he
   subst he;obtain⟨t1,rfl⟩:=ru
   exact⟨RcAt.int_str _ _ _ _ ,RcNeAt.int_str _ _ _ _ ⟩
  |tup es=>
   unfold Rep at he
   obtain⟨b,ys,rfl,q2,r2⟩:=he
   cases ru
   obtain⟨_,_,t1,_⟩:=I.tuple q2
   exact⟨RcAt.int_tuple _ _ t1 (by omega),RcNeAt.int_tuple _ _ t1 (by omega)⟩
  |lst es=>
   unfold Rep at he
   obtain⟨b,ys,rfl,q2,r2⟩:=he
   cases ru
   obtain⟨_,_,t1,_⟩:=I.list q2
   exact⟨RcAt.int_list _ _ t1.isList (by omega),RcNeAt.int_list _ _ t1.isList (by omega)⟩
 |str x0=>
  unfold Rep at hd
  subst hd;obtain⟨t0,rfl⟩:=rv
  cases e with
  |non=>
   unfold Rep at he
   subst he;cases ru
   exact⟨RcAt.str_none _ _ ,RcNeAt.str_none _ _ ⟩
  |bl b1=>
   unfold Rep at he
   subst he;cases ru
   exact⟨RcAt.str_bool _ _ _ ,RcNeAt.str_bool _ _ _ ⟩
  |int i1=>
   unfold Rep at he
   subst he;obtain⟨t1,rfl⟩:=ru
   exact⟨RcAt.str_int _ _ _ _ ,RcNeAt.str_int _ _ _ _ ⟩
  |str x1=>
   unfold Rep at he
   subst he;obtain⟨t1,rfl⟩:=ru
   exact⟨RcAt.str_str _ _ _ _ ,RcNeAt.str_str _ _ _ _ ⟩
  |tup es=>
   unfold Rep at he
   obtain⟨b,ys,rfl,q2,r2⟩:=he
   cases ru
   obtain⟨_,_,t1,_⟩:=I.tuple q2
   exact⟨RcAt.str_tuple _ _ t1 (by omega),RcNeAt.str_tuple _ _ t1 (by omega)⟩
  |lst es=>
   unfold Rep at he
   obtain⟨b,ys,rfl,q2,r2⟩:=he
   cases ru
   obtain⟨_,_,t1,_⟩:=I.list q2
   exact⟨RcAt.str_list _ _ t1.isList (by omega),RcNeAt.str_list _ _ t1.isList (by omega)⟩
 |tup ds=>
  unfold Rep at hd
  obtain⟨a,xs,rfl,q,r⟩:=hd
  cases rv
  rw[deep] at hu
  obtain⟨_,_,t0,_⟩:=I.tuple q
  cases e with
  |non=>
   unfold Rep at he
   subst he;cases ru
   exact⟨RcAt.tuple_none t0 (by omega),RcNeAt.tuple_none t0 (by omega)⟩
  |bl b1=>
   unfold Rep at he
   subst he;cases ru
   exact⟨RcAt.tuple_bool _ t0 (by omega),RcNeAt.tuple_bool _ t0 (by omega)⟩
  |int i1=>
   unfold Rep at he
   subst he;obtain⟨t1,rfl⟩:=ru
   exact⟨RcAt.tuple_int _ _ t0 (by omega),RcNeAt.tuple_int _ _ t0 (by omega)⟩
  |str x1=>
   unfold Rep at he
   subst he;obtain⟨t1,rfl⟩:=ru
   exact⟨RcAt.tuple_str _ _ t0 (by omega),RcNeAt.tuple_str _ _ t0 (by omega)⟩
  |tup es=>
   unfold Rep at he
   obtain⟨b,ys,rfl,q2,r2⟩:=he
   cases ru
   obtain⟨_,_,t1,_⟩:=I.tuple q2
   have z:=ϛ6 I q r q2 r2 (A:=A) (by omega) fun us ws w1 w2 j v u e1 e2=>ϲT I ds es A.in1 xs ys us ws r r2 w1 w2 (by rw[ϰF];omega) j v u e1 e2
   rw[eqD];exact z
  |lst es=>
   unfold Rep at he
   obtain⟨b,ys,rfl,q2,r2⟩:=he
   cases ru
   obtain⟨_,_,t1,_⟩:=I.list q2
   exact⟨RcAt.tuple_list t0 t1.isList (by omega),RcNeAt.tuple_list t0 t1.isList (by omega)⟩
 |lst ds=>
  unfold Rep at hd
  obtain⟨a,xs,rfl,q,r⟩:=hd
  cases rv
  rw[deep] at hu
  obtain⟨_,_,t0,_⟩:=I.list q
  cases e with
  |non=>
   unfold Rep at he
   subst he;cases ru
   exact⟨RcAt.list_none t0.isList (by omega),RcNeAt.list_none t0.isList (by omega)⟩
  |bl b1=>
   unfold Rep at he
   subst he;cases ru
   exact⟨RcAt.list_bool _ t0.isList (by omega),RcNeAt.list_bool _ t0.isList (by omega)⟩
  |int i1=>
   unfold Rep at he
   subst he;obtain⟨t1,rfl⟩:=ru
   exact⟨RcAt.list_int _ _ t0.isList (by omega),RcNeAt.list_int _ _ t0.isList (by omega)⟩
  |str x1=>
   unfold Rep at he
   subst he;obtain⟨t1,rfl⟩:=ru
   exact⟨RcAt.list_str _ _ t0.isList (by omega),RcNeAt.list_str _ _ t0.isList (by omega)⟩
  |tup es=>
   unfold Rep at he
   obtain⟨b,ys,rfl,q2,r2⟩:=he
   cases ru
   obtain⟨_,_,t1,_⟩:=I.tuple q2
   exact⟨RcAt.list_tuple t0.isList t1 (by omega),RcNeAt.list_tuple t0.isList t1 (by omega)⟩
  |lst es=>
   unfold Rep at he
   obtain⟨b,ys,rfl,q2,r2⟩:=he
   cases ru
   obtain⟨_,_,t1,_⟩:=I.list q2
   have z:=ϛW I q r q2 r2 (A:=A) (by omega) fun us ws w1 w2 j v u e1 e2=>ϲT I ds es A.in1 xs ys us ws r r2 w1 w2 (by rw[ϰF];omega) j v u e1 e2
   rw[eqD];exact z
def rEqD (K:PySem.W.Frag):R2:=fun x y H Q=>∃d e,Rep K H d x∧Rep K H e y∧deep d≤60∧Q (.bl (eqD d e)) H
def rNeD (K:PySem.W.Frag):R2:=fun x y H Q=>∃d e,Rep K H d x∧Rep K H e y∧deep d≤60∧Q (.bl (!eqD d e)) H
theorem ϲV (hu:X.A.units+64 < cLine):OpR X (compareOp .Eq) (rEqD X.K):=by
 intro pins s σ H x y v u Q I rx ry h
 obtain⟨d,e,hd,he,hz,q⟩:=h
 exact(rcD (A:=X.A) I d e hd he rx ry (by omega)).1 X.prog X.w X.xe _ ⟨.bl (eqD d e),H,I,rfl,q⟩
theorem ϵr (hu:X.A.units+64 < cLine):OpR X (compareOp .NotEq) (rNeD X.K):=by
 intro pins s σ H x y v u Q I rx ry h
 obtain⟨d,e,hd,he,hz,q⟩:=h
 exact(rcD (A:=X.A) I d e hd he rx ry (by omega)).2 X.prog X.w X.xe _ ⟨.bl (!eqD d e),H,I,rfl,q⟩
noncomputable def absD (K:PySem.W.Frag) (H:Hp) (u:Value):D:=by
 classical exact if h:∃d v,RelV v u∧Rep K H d v then h.choose else .non
end
end L3
namespace L3
open PySem PySem.Spec PyProof.Rows L2
def blk (X:Cx) (scope:Scope) (cl:List (Str×Addr)) (N':List Str) (C:Addr) (s₀:Shared) (H₀:Hp) (ex:List Addr) (pn:List (Addr×Obj)):Cx where
 prog:=X.prog
 w:=X.w
 K:=X.K
 mg:=X.mg
 base:=X.base
 A:=X.A
 N:=N'
 s₀:=s₀
 H₀:=H₀
 env:=compEnvC scope cl C X.env
 outer:=X.stack
 stack:=X.stack
 ex:=ex
 fn:=fun _=>false
 calm:=X.calm
 pn:=pn
 xe:=fun _ _=>False
abbrev lobj (its:List Value):Obj:={ cls:=.type "list",data:=.seq its.toArray its.length }
section
variable {X:Cx}{pins:List (Addr×Obj)}{σ:L2.St}{H:Hp}{s:Shared}
def PF (X:Cx) (ifs:List Expr) (t:TT):Prop:=∀(pins:List (Addr×Obj)) (s:Shared) (σ:L2.St) (H:Hp) (Q:Bool→Hp→Prop),Inv X pins σ H s→t σ H Q →
 wpAny (model X.prog X.w) X.A (forIn ifs true fun c r=>if r=true then do let ok ← isTrue c X.env (eval c X.env);pure (ForInStep.yield ok) else pure (ForInStep.yield r)) (TP X pins σ Q) X.xe s
def tTrue:TT:=fun _ H Q=>Q true H
theorem ϕs:PF X [] tTrue:=fun _ _ _ H _ I h=>wpAny_tests_nil ⟨H,I,h⟩
theorem ϱX {c:Expr}{t:TT} (h:PT X c t):PF X [c] t:=fun pins s σ H Q I hq=>wpAny_tests_one (h pins s σ H Q I hq)
theorem Inv.track {D:Addr}{ys:List V}{its:List Value} (I:Inv X pins σ H s) (hD:H D=none) (ho:s.heap.get? D=some (lobj its)) (hv:Vals ys its) (hz:ys.length≤sizeLine)
  (h1:D∈X.ex∨X.s₀.heap.objs.size≤D) (h2:D≠X.env.locals) (h3:∀x c,X.env.cells.lookup x=some c→c≠D) (h4:∀p∈X.pn++pins,p.1≠D):Inv X pins σ (upd H D (.lst ys)) s:=by
 have old:∀b u,H b=some u→upd H D (.lst ys) b=some u:=fun b u e=>by rw[ϖp (ϖs e hD)];exact e
 refine I.step (g':=s.gens) (t':=s.toks) (d':=s.drawn) (h':=s.heap) (ch:=[D]) (fun b hb=>?_) (fun b o _ _ _ e _=>e) (fun b o _ _ _ e _=>⟨o.slots,e⟩) (fun b o hb _ n=>?_) (fun b o _ e=>⟨o,e⟩)
  (fun b xs e=>old b _ e) (fun b o u e=>old b _ e) (fun b ps e=>⟨#[],by rw[old b _ e];simp⟩) (fun m hm=>hm) (fun b u e=>?_) I.bare
 ·have e:b=D:=by simpa using hb
  subst e
  exact⟨h1,h2,h3,h4⟩
 ·rw[ϖp (by simpa using hb)];exact n
 ·by_cases hb:b=D
  ·subst hb
   rw[ϖc] at e;cases e
   exact⟨hz,its,its.length,hv,ho⟩
  ·rw[ϖp hb] at e
   exact(I.hok b u e).stay (fun c v _ q=>q) (fun c q=>old c _ q) fun c xs q=>old c _ q
def lend (js:List (Option Nat)) (σ:L2.St):L2.St:=js.map fun o=>o.bind fun j=>(σ[j]?).join
structure Blk (X:Cx) (scope:Scope) (cl:List (Str×Addr)) (N':List Str) (js:List (Option Nat)):Prop where
 clos:closureFor scope X.env=pure cl
 nocell:∀y∈scope.names,y.2≠.cell
 kind:scope.kind=.function
 names:∀y∈scope.names,y.2=.local→scope.names.lookup y.1=some .local
 sub:∀y c,cl.lookup y=some c→X.env.cells.lookup y=some c
 has:∀y,((relabel scope X.env).names.lookup y=some .cell∨(relabel scope X.env).names.lookup y=some .free)→∃c,cl.lookup y=some c
 len:js.length=N'.length
 lent:∀(i:Nat) y j,N'[i]?=some y→js[i]?=some (some j)→X.N[j]?=some y∧Vis X.env.scope y∧X.env.scope.names.lookup y≠some .local∧(relabel scope X.env).names.lookup y≠some .local
theorem blk_inv {scope:Scope}{cl:List (Str×Addr)}{N':List Str}{js:List (Option Nat)}{fp:List Addr}{C:Addr}{h1:Heap}{m:Str→Option Value}{tk:Nat} (B:Blk X scope cl N' js) (I:Inv X pins σ H s) (f:∀b∈fp,FpOk X pins H b)
  (fo:∀b∈fp,∃o,s.heap.get? b=some o) (old:∀b o,s.heap.get? b=some o→h1.get? b=some o) (hns:h1.Ns C m) (hC:s.heap.objs.size≤C) :
  Inv (blk X scope cl N' C s H fp (X.pn++pins)) [] (lend js σ) H { s with heap:=h1,toks:=tk }:=by
 have ltC:∀b o,s.heap.get? b=some o→b≠C:=fun b o e=>Nat.ne_of_lt (Nat.lt_of_lt_of_le (Heap.lt_size e) hC)
 refine⟨⟨I.ok.mod,B.kind,I.ok.glob,I.ok.blt,hC,fun y z c e1 e2=>I.ok.inj y z c (B.sub y c e1) (B.sub z c e2),fun y hy=>B.has y hy,(fun y c e=>nomatch e),I.ok.hd,I.ok.frames,.inl rfl,fun b hb=>?_,I.bs,?_,fun b o e hb=>?_,fun b hb hs=>?_,I.stack,I.stkFree⟩,
  rfl,I.bare,Un.kept old,⟨m,hns,fun i y v e1 e2 e3=>?_⟩,fun y c e=>?_,I.hok.fresh hC,fun y c e=>I.freeC y c (B.sub y c e),fun p hp=>?_,I.hok.kept old,?_⟩
 ·obtain⟨o,e⟩:=fo b hb
  exact⟨ltC b o e,fun y c q=>(f b hb).2.2.2.2.1 y c (B.sub y c q)⟩
 ·exact Nat.le_trans I.ok.bsz I.sz
 ·rcases (f b hb).2.2.2.1 with z|z
  ·exact I.ok.noex b o e z
  ·exact absurd (Nat.lt_of_lt_of_le (Heap.lt_size (I.ok.bs b o e).1) z) (Nat.lt_irrefl _)
 ·rcases List.mem_cons.mp (I.stkSub b hs) with z|z
  ·exact(f b hb).2.1 z
  ·exact(f b hb).2.2.1 z
 ·have e2':(lend js σ)[i]?=some (some v):=e2
  unfold lend at e2'
  rw[List.getElem?_map] at e2'
  cases ej:js[i]? with
  |none=>rw[ej] at e2';cases e2'
  |some o=>
   rw[ej] at e2'
   cases o with
   |none=>cases e2'
   |some j=>
    obtain⟨n1,n2,n3,n4⟩:=B.lent i y j e1 ej
    have es:σ[j]?=some (some v):=by
     cases q:σ[j]? with
     |none=>rw[show(some (some j)).map _=_ from rfl] at e2';simp[q] at e2'
     |some z=>simp[q] at e2';rw[e2']
    obtain⟨m0,hn0,hl0⟩:=I.loc
    obtain⟨u,r,l⟩:=hl0 j y v n1 es n2
    refine⟨u,r,?_⟩
    rcases l with⟨k,_⟩|⟨k,c,ec,z⟩
    ·exact absurd k n3
    ·have k':(relabel scope X.env).names.lookup y=some .cell∨(relabel scope X.env).names.lookup y=some .free:=by
      rcases e3 with q|q
      ·exact absurd q n4
      ·exact q
     obtain⟨c',ec'⟩:=B.has y k'
     have:=B.sub y c' ec'
     rw[ec] at this;cases this
     obtain⟨oc,hoc,hd⟩:=z
     exact .inr ⟨k',c,ec',oc,old _ _ hoc,hd⟩
 ·obtain⟨v,oc,hoc,hd⟩:=I.cell y c (B.sub y c e)
  exact⟨v,oc,old _ _ hoc,hd⟩
 ·have hp':p∈X.pn++pins:=by simpa [blk] using hp
  obtain⟨e,n,ne,nf,d⟩:=I.pin p hp'
  refine⟨old _ _ e,n,ltC _ _ e,fun hs=>?_,d⟩
  rcases List.mem_cons.mp (I.stkSub p.1 hs) with z|z
  ·exact ne z
  ·exact nf z
 ·show(lend js σ).length=N'.length
  unfold lend
  rw[List.length_map,B.len]
theorem ϰi {prog:Program}{w:World}{A:Around}{R:Result→Shared→Prop}{s:Shared}{elt target iter:Expr}{ifs:List Expr}{scope:Scope}{pos:Pos}{it acc:Value}{env:Env} (I:Nat→Shared→Prop)
  (turn:∀n s,I n s→wpAny (model prog w) A (pyNext it) (fun r s₁=>match r with
   |none=>R (.ok .next) s₁
   |some v=>wpAny (model prog w) A (letOwnedTupleGo target it v) (fun _ s₁'=>wpAny (model prog w) A (assign target env v) (fun _ s₂=>
     wpAny (model prog w) A (forIn ifs true fun c r=>if r=true then do let ok ← isTrue c env (eval c env);pure (ForInStep.yield ok) else pure (ForInStep.yield r)) (fun ok s₃=>
      if ok=true then wpAny (model prog w) A (eval elt env) (fun x s₄=>
       wpAny (model prog w) A (call (.builtin "list.append") [acc,x]) (fun _ s₅=>∃m,m < n∧I m s₅) (fun _ _=>False) s₄) (fun _ _=>False) s₃
      else ∃m,m < n∧I m s₃) (fun _ _=>False) s₂) (fun _ _=>False) s₁') (fun _ _=>False) s₁) (fun _ _=>False) s)
  (n:Nat) (h:I n s) :
  codeAny (model prog w) A (.compLoop (.ListComp elt [⟨target,iter,ifs,0⟩] scope pos) 0 it acc env) R s:=by
 refine codeAny_loop rfl I (fun n s hI=>?_) n h
 show wpAny _ A ((compTurn (.ListComp elt [⟨target,iter,ifs,0⟩] scope pos) 0 it acc env).onRaise (fun x=>do noteFrame x env;theTreesLotGoes x)) _ _ s
 refine wpAny_noted ?_
 rw[compTurn_list]
 refine wpAny_bind (wpAny_standAt (wpAny_bind (wpAny_mono (turn n s hI) (fun r s₁ h₁=>?_) fun _ _ f=>f.elim)))
 cases r with
 |none=>exact wpAny_pure h₁
 |some v=>
  refine wpAny_bind (wpAny_mono h₁ (fun _ s₁' h₁'=>?_) fun _ _ f=>f.elim)
  refine wpAny_bind (wpAny_mono h₁' (fun _ s₂ h₂=>wpAny_bind (wpAny_mono h₂ (fun ok s₃ h₃=>?_) fun _ _ f=>f.elim)) fun _ _ f=>f.elim)
  cases ok with
  |false=>exact wpAny_pure ⟨rfl,h₃⟩
  |true=>
   exact wpAny_bind (wpAny_bind (wpAny_mono h₃ (fun x s₄ h₄=>wpAny_bind (wpAny_mono h₄ (fun _ s₅ h₅=>wpAny_pure (wpAny_pure ⟨rfl,h₅⟩)) fun _ _ f=>f.elim)) fun _ _ f=>f.elim))
def ϵc (J:It) (g:TG) (tf:TT) (te:TE) (Q:VK) (τ0:L2.St) (H1:Hp):Prop:=∃W:Nat→Nat→List V→L2.St→Hp→Prop,(∃ m,W 0 m [] τ0 H1)∧∀i m ys τ H,W i m ys τ H →
 (J.stop i H∧∀p,H p=none→Q (.ref p) (upd H p (.lst ys)))∨(J.go i H∧∃Nx:List V→L2.St→Hp→Prop,(∀ ys' τ' H',Nx ys' τ' H'→∃m',m' < m∧W (i+1) m' ys' τ' H') ∧
  ∀v H',J.yld i H v H'→g v τ H' fun τ2 H2=>tf τ2 H2 fun b H3=>if b=true then te τ2 H3 fun y H4=>ys.length < sizeLine∧Nx (ys++[y]) τ2 H4 else Nx ys τ2 H3)
def tComp (js:List (Option Nat)) (wi:TI) (g:TG) (tf:TT) (te:TE):TE:=fun σ H Q=>wi σ H fun J H1=>ϵc J g tf te Q (lend js σ) H1
theorem ϲJ {elt iter tg:Expr}{ifs:List Expr}{scope:Scope}{pos:Pos}{cl:List (Str×Addr)}{N':List Str}{js:List (Option Nat)}{g:TG}{tf:TT}{te:TE}{RR:Value→Addr→Result→Shared→Prop}{Qv:VK}{E:Value→Shared→Prop}{it:Addr}{fp:List Addr}{tn:Nat→Heap→Prop}{J:It}{H2:Hp}{s2:Shared}
  (hc:X.calm=true) (B:Blk X scope cl N' js) (hg:∀C s₀ H₀ ex pn,PG (blk X scope cl N' C s₀ H₀ ex pn) tg g) (hf:∀C s₀ H₀ ex pn,PF (blk X scope cl N' C s₀ H₀ ex pn) ifs tf) (he:∀C s₀ H₀ ex pn,PE (blk X scope cl N' C s₀ H₀ ex pn) elt te)
  (I2:Inv X pins σ H2 s2) (T:Turn X.prog X.w X.K tg J fp it tn) (st2:tn 0 s2.heap) (f2:∀b∈fp,FpOk X pins H2 b) (cg:ϵc J g tf te Qv (lend js σ) H2)
  (fin:∀(Dd Cc:Addr) (m:Str→Option Value) (s4:Shared) (Hx:Hp),Inv X pins σ Hx s4→Qv (.ref Dd) Hx→s4.heap.Ns Cc m→Hx Cc=none→Cc≠X.env.locals→X.s₀.heap.objs.size≤Cc→(∀ x c,X.env.cells.lookup x=some c→c≠Cc)→(∀ p∈X.pn++pins,p.1≠Cc) →
   RR (.ref Dd) Cc (.ok .next) s4) :
  wpAny (model X.prog X.w) X.A (newList []) (fun acc s₃=>wpAny (model X.prog X.w) X.A (newFunctionEnv scope X.env.globals cl [] X.env.qual none .none (some X.env)) (fun cenv s₄=>
   codeAny (model X.prog X.w) X.A (.compStart (.ListComp elt [⟨tg,iter,ifs,0⟩] scope pos) 0 (.ref it) acc { cenv with scope:=relabel scope X.env }) (RR acc cenv.locals) s₄) E s₃) E s2:=by
 obtain⟨W,⟨m0,w0⟩,turn⟩:=cg
 refine wpAny_newObj_type (wpAny_newFunctionEnv B.nocell (by intro y hy;simp at hy) (fun h₁ hns₁ hsb₁=>?_) B.kind)
 dsimp only at hns₁ hsb₁⊢
 generalize hG:s2.heap.push { cls:=.type "list",dict:=none,data:=.seq ([]:List Value).toArray }=G at hns₁ hsb₁⊢
 have hC:G.objs.size=s2.heap.objs.size+1:=by rw[← hG,Heap.size_push]
 have hDC:s2.heap.objs.size≠G.objs.size:=by rw[hC];exact Nat.ne_of_lt (Nat.lt_succ_self _)
 have below:∀b,b < s2.heap.objs.size→b≠G.objs.size∧b≠s2.heap.objs.size:=fun b hb=>⟨by rw[hC];exact Nat.ne_of_lt (Nat.lt_succ_of_lt hb),Nat.ne_of_lt hb⟩
 have old:∀b o,s2.heap.get? b=some o→h₁.get? b=some o:=fun b o e=>hsb₁.extBut b o (below b (Heap.lt_size e)).1 (Heap.get?_push_of_some _ (hG▸Heap.get?_push_of_some _ e))
 have hacc:h₁.get? s2.heap.objs.size=some (lobj []):=hsb₁.extBut _ _ hDC (Heap.get?_push_of_some _ (hG▸Heap.get?_push_size _ rfl))
 have fo:∀b∈fp,∃o,s2.heap.get? b=some o:=fun b hb=>let ⟨o,e,_⟩:=T.obj 0 _ st2 b hb;⟨o,e⟩
 have I4:=blk_inv (tk:=s2.toks+([]:List (Str×Value)).length) B I2 f2 fo old hns₁ (by rw[hC];exact Nat.le_succ _)
 generalize hD:s2.heap.objs.size=Dd at *
 generalize hCC:G.objs.size=Cc at *
 have st4:tn 0 h₁:=T.keep 0 _ _ st2 fun b _ o e=>old b o e
 have fpne:∀b∈fp,b≠Dd:=fun b hb=>let ⟨o,e⟩:=fo b hb;by rw[← hD];exact Nat.ne_of_lt (Heap.lt_size e)
 have hDfree:H2 Dd=none:=I2.hok.fresh (by rw[hD];exact Nat.le_refl _)
 have hDfs:Dd∉frs X.stack:=fun hb=>by
  rcases List.mem_cons.mp (I2.stkSub _ hb) with z|z
  ·have:=I2.lt;rw[← z,hD] at this;exact Nat.lt_irrefl _ this
  ·exact I2.nofs (a:=Dd) (by rw[hD];exact Nat.le_refl _) z
 have hDcell:∀x c,X.env.cells.lookup x=some c→c≠Dd:=fun x c e z=>by
  obtain⟨v,q⟩:=I2.cell x c e
  have:=q.lt
  rw[z,← hD] at this;exact Nat.lt_irrefl _ this
 have hDpin:∀p∈X.pn++pins,p.1≠Dd:=fun p hp z=>by
  have:=Heap.lt_size (I2.pin p hp).1
  rw[z,← hD] at this;exact Nat.lt_irrefl _ this
 generalize hXb:blk X scope cl N' Cc s2 H2 fp (X.pn++pins)=Xb at I4
 have xP:Xb.prog=X.prog:=by rw[← hXb];rfl
 have xW:Xb.w=X.w:=by rw[← hXb];rfl
 have xK:Xb.K=X.K:=by rw[← hXb];rfl
 have xA:Xb.A=X.A:=by rw[← hXb];rfl
 have xC:Xb.calm=true:=by rw[← hXb];exact hc
 have xL:Xb.env.locals=Cc:=by rw[← hXb];rfl
 have xFs:Xb.fs=frs X.stack:=by rw[← hXb];rfl
 have xEx:Xb.ex=fp:=by rw[← hXb];rfl
 have xPn:Xb.pn=X.pn++pins:=by rw[← hXb];rfl
 have xS:Xb.s₀=s2:=by rw[← hXb];rfl
 have xH:Xb.H₀=H2:=by rw[← hXb];rfl
 have xCl:∀y c,Xb.env.cells.lookup y=some c→X.env.cells.lookup y=some c:=by rw[← hXb];exact B.sub
 have xE:Xb.env=compEnvC scope cl Cc X.env:=by rw[← hXb];rfl
 have xX:Xb.xe=fun _ _=>False:=by rw[← hXb];rfl
 have hg':PG Xb tg g:=by rw[← hXb];exact hg _ _ _ _ _
 have hf':PF Xb ifs tf:=by rw[← hXb];exact hf _ _ _ _ _
 have he':PE Xb elt te:=by rw[← hXb];exact he _ _ _ _ _
 have fok:∀{H':Hp}{o:Obj},(∀ b∈fp,H' b=none)→∀b∈fp,FpOk Xb [(Dd,o)] H' b:=fun {H' o} hn b hb=>by
  obtain⟨o',e'⟩:=fo b hb
  refine⟨hn b hb,?_,?_,.inl (by rw[xEx];exact hb),fun y c q=>(f2 b hb).2.2.2.2.1 y c (xCl y c q),fun p hp=>?_⟩
  ·rw[xL];exact(below b (by have:=Heap.lt_size e';rw[hD] at this;exact this)).1
  ·rw[xFs]
   intro hs
   rcases List.mem_cons.mp (I2.stkSub b hs) with z|z
   ·exact(f2 b hb).2.1 z
   ·exact(f2 b hb).2.2.1 z
  ·rw[xPn] at hp
   rcases List.mem_append.mp hp with z|z
   ·exact(f2 b hb).2.2.2.2.2 p z
   ·rw[List.mem_singleton.mp z];exact(fpne b hb).symm
 have hDC':Dd≠Cc:=by rw[← hD,← hCC];rw[← hCC,← hD] at hDC;exact hDC
 have loop:codeAny (model X.prog X.w) X.A (.compLoop (.ListComp elt [⟨tg,iter,ifs,0⟩] scope pos) 0 (.ref it) (.ref Dd) (compEnvC scope cl Cc X.env)) (RR (.ref Dd) Cc)
   { s2 with heap:=h₁,toks:=s2.toks+([]:List (Str×Value)).length }:=by
  refine ϰi (fun n s'=>∃i ys τ H' its,Inv Xb [(Dd,lobj its)] τ H' s'∧tn i s'.heap∧(∀ b∈fp,H' b=none)∧Vals ys its∧ys.length≤sizeLine∧W i n ys τ H') ?_ m0
   ⟨0,[],_,H2,[],I4.pins_of (fun p hp=>?_),st4,fun b hb=>(f2 b hb).1,.nil,Nat.zero_le _,w0⟩
  ·rintro n s3 ⟨i,ys,τ,H3,its,I3,st3,fr3,hv,hz,w3⟩
   have pD:=I3.pin (Dd,lobj its) (List.mem_append_right _ (List.mem_singleton.mpr rfl))
   rcases turn i n ys τ H3 w3 with⟨stop,qn⟩|⟨go,Nx,hN,step⟩
   ·have hd:=T.done Xb xP xW xK xC i [(Dd,lobj its)] s3 τ H3 (fun _ _=>False) I3 (fok fr3) st3 stop
    rw[xA] at hd
    refine thn hd fun r s4 ⟨hr,I5⟩=>?_
    subst hr
    obtain⟨m,hn,_⟩:=id I5.loc
    rw[xL] at hn
    have pD5:=I5.pin (Dd,lobj its) (List.mem_append_right _ (List.mem_singleton.mpr rfl))
    have ub:=I5.base
    rw[xFs,xEx,xS,xH] at ub
    have hfC:H3 Cc=none:=by have:=I5.free;rw[xL] at this;exact this
    have ok5:HOk X.prog X.w H3 s4.heap:=by have:=I5.hok;rw[xP,xW] at this;exact this
    have IX:Inv X pins σ H3 s4:=I2.call' (s':=s4) (by rw[I5.os,xS]) ub ok5 I5.bare fun b hb=>⟨(f2 b hb).2.2.2.1,(f2 b hb).2.1,(f2 b hb).2.2.2.2.1,(f2 b hb).2.2.2.2.2⟩
    have hlo:X.s₀.heap.objs.size≤Dd:=by rw[← hD];exact I2.sz
    have hloL:Dd≠X.env.locals:=fun z=>by have:=I2.lt;rw[← z,hD] at this;exact Nat.lt_irrefl _ this
    have hCD:Dd≤Cc:=by omega
    refine fin Dd Cc m s4 (upd H3 Dd (.lst ys)) (L3.Inv.track IX pD5.2.1 pD5.1 hv hz (.inr hlo) hloL hDcell hDpin) (qn Dd pD5.2.1) hn (by rw[ϖp hDC'.symm];exact hfC) ?_ (Nat.le_trans hlo hCD) ?_ ?_
    ·intro z;have:=I2.lt;rw[← z,hD] at this;exact Nat.lt_irrefl _ (Nat.lt_of_lt_of_le this hCD)
    ·intro x c e z
     obtain⟨v,q⟩:=I2.cell x c e
     have:=q.lt
     rw[z,hD] at this;exact Nat.lt_irrefl _ (Nat.lt_of_lt_of_le this hCD)
    ·intro p hp z
     have:=Heap.lt_size (I2.pin p hp).1
     rw[z,hD] at this;exact Nat.lt_irrefl _ (Nat.lt_of_lt_of_le this hCD)
   ·have hit:=T.item Xb xP xW xK xC i [(Dd,lobj its)] s3 τ H3 (fun _ _=>False) I3 (fok fr3) st3 go
    rw[xA] at hit
    refine thn hit fun r s4 ⟨u,hr,h4⟩=>?_
    subst hr
    refine thn h4 fun _ s5 ⟨x,H5,I5,r5,y5,st5,fr5⟩=>?_
    have I5':=I5.pinned (fok fr5) (T.obj _ _ st5)
    have ga:=hg' _ s5 τ H5 x u _ I5' r5 (step x H5 y5)
    rw[xP,xW,xA,xE,xX] at ga
    refine thn ga fun _ s6 ⟨τ6,H6,I6,q6⟩=>?_
    have fa:=hf' _ s6 τ6 H6 _ I6 q6
    rw[xP,xW,xA,xE,xX] at fa
    refine thn fa fun ok s7 ⟨H7,I7,q7⟩=>?_
    have back:∀{τ8:L2.St}{H8:Hp}{s8:Shared},Inv Xb ([(Dd,lobj its)]++ϲU fp s5.heap) τ8 H8 s8→tn (i+1) s8.heap∧(∀ b∈fp,H8 b=none):=fun {τ8 H8 s8} I8=>
     ⟨T.keep _ _ _ st5 fun b hb o e=>(I8.pin (b,o) (List.mem_append_right _ (List.mem_append_right _ (ϰc hb e)))).1,fun b hb=>by
      obtain⟨o,e,d⟩:=T.obj _ _ st5 b hb
      exact(I8.pin (b,o) (List.mem_append_right _ (List.mem_append_right _ (ϰc hb e)))).2.1⟩
    cases ok with
    |false=>
     rw[if_neg (by simp)] at q7⊢
     obtain⟨m',hm,w7⟩:=hN _ _ _ q7
     obtain⟨b1,b2⟩:=back I7
     exact⟨m',hm,i+1,ys,τ6,H7,its,I7.unpinned,b1,b2,hv,hz,w7⟩
    |true=>
     rw[if_pos rfl] at q7⊢
     have ea:=he' _ s7 τ6 H7 _ I7 q7
     rw[xP,xW,xA,xE,xX] at ea
     refine thn ea fun yv s8 ⟨y,H8,I8,r8,hlt,n8⟩=>?_
     have pD8:=I8.pin (Dd,lobj its) (List.mem_append_right _ (List.mem_append_left _ (List.mem_singleton.mpr rfl)))
     have hil:its.length=ys.length:=hv.length.symm
     refine append_at (hsz:=by rw[List.size_toArray];omega) pD8.1 fun h' hs' ho'=>?_
     obtain⟨m',hm,w8⟩:=hN _ _ _ n8
     obtain⟨b1,b2⟩:=back I8
     have J1:Inv Xb [] τ6 H8 s8:=I8.pins_of (fun p hp=>nomatch hp)
     have J2:Inv Xb [] τ6 H8 { s8 with heap:=h' }:=J1.turned (t':=s8.toks) (it:=Dd) (fun b o hb e=>(hs'.2 b hb).trans e) pD8.2.1 pD8.2.2.1 (.inr (by rw[xS,hD];exact Nat.le_refl _)) (fun y c q=>hDcell y c (xCl y c q)) fun p hp=>by
      rw[xPn,List.append_nil] at hp
      exact hDpin p hp
     refine⟨m',hm,i+1,ys++[y],τ6,H8,its++[yv],J2.pins_of fun p hp=>?_,T.keep _ _ _ b1 fun b hb o e=>(hs'.2 b (fpne b hb)).trans e,b2,hv.append (.cons r8 .nil),by rw[List.length_append,List.length_singleton];omega,w8⟩
     rw[List.mem_singleton.mp hp]
     refine⟨?_,pD8.2.1,pD8.2.2.1,pD8.2.2.2.1,fun v z=>nomatch z⟩
     show h'.get? Dd=some (lobj (its++[yv]))
     rw[ho']
     show some ({ cls:=.type "list",data:=.seq (its.toArray.push yv) (its.length+1) }:Obj)=some { cls:=.type "list",data:=.seq (its++[yv]).toArray (its++[yv]).length }
     rw[List.length_append,List.length_singleton,List.push_toArray]
  ·rw[List.mem_singleton.mp hp]
   refine⟨hacc,hDfree,?_,?_,fun v z=>nomatch z⟩
   ·rw[xL];rw[← hCC,← hD];rw[← hCC,← hD] at hDC;exact hDC
   ·rw[xFs];exact hDfs
 exact codeAny_compStart_list loop (T.self X.A 0 _ _ _ st4 loop)
theorem ϑR {elt iter tg:Expr}{ifs:List Expr}{scope:Scope}{pos:Pos}{cl:List (Str×Addr)}{N':List Str}{js:List (Option Nat)}{wi:TI}{g:TG}{tf:TT}{te:TE} (hc:X.calm=true) (B:Blk X scope cl N' js) (hi:PI X tg iter wi)
  (hg:∀C s₀ H₀ ex pn,PG (blk X scope cl N' C s₀ H₀ ex pn) tg g) (hf:∀C s₀ H₀ ex pn,PF (blk X scope cl N' C s₀ H₀ ex pn) ifs tf) (he:∀C s₀ H₀ ex pn,PE (blk X scope cl N' C s₀ H₀ ex pn) elt te)
  (hs:∀x,foldedSetIterable iter X.env x=pure x:=by intro _;rfl):PE X (.ListComp elt [⟨tg,iter,ifs,0⟩] scope pos) (tComp js wi g tf te):=by
 intro pins s σ H Q I h
 rw[eval_ListComp]
 refine wpAny_comprehension_free (use:=none) rfl hs B.clos B.kind B.names (thn (hi pins s σ H _ I h) fun xv s1 h1=>thn h1 fun itv s2 h2=>?_)
 obtain⟨it,fp,tn,J,H2,e,I2,T,st2,f2,cg⟩:=h2
 subst e
 refine ϲJ (RR:=fun acc C=>compPost (model X.prog X.w) X.A X.xe none (EP X pins σ Q) acc C) hc B hg hf he I2 T st2 f2 cg ?_
 intro Dd Cc m s4 Hx IX q hn hC cL cS cC cP
 refine⟨m,hn,fun h' hs'=>⟨.ref Dd,Hx,?_,rfl,q⟩⟩
 exact IX.turned (t':=s4.toks) (it:=Cc) (fun b o hb e=>(hs'.2 b hb).trans e) hC cL (.inr cS) cC cP
theorem ϑF {i:Nat}{y:Str}{elt iter tg:Expr}{ifs:List Expr}{scope:Scope}{pos spos py:Pos}{cl:List (Str×Addr)}{N':List Str}{js:List (Option Nat)}{wi:TI}{g:TG}{tf:TT}{te:TE} (hN:X.N.Nodup) (hy:X.N[i]?=some y) (hx:Loc X.env.scope y)
  (hsw:swapsWith (.ListComp elt [⟨tg,iter,ifs,0⟩] scope pos) (some (.Name y py)) spos.line X.env=pure true) (hc:X.calm=true) (B:Blk X scope cl N' js) (hi:PI X tg iter wi)
  (hg:∀C s₀ H₀ ex pn,PG (blk X scope cl N' C s₀ H₀ ex pn) tg g) (hf:∀C s₀ H₀ ex pn,PF (blk X scope cl N' C s₀ H₀ ex pn) ifs tf) (he:∀C s₀ H₀ ex pn,PE (blk X scope cl N' C s₀ H₀ ex pn) elt te)
  (hs:∀x,foldedSetIterable iter X.env x=pure x:=by intro _;rfl) (hfn:X.fn y=true∨X.env.scope.names.lookup y=some .local:=by first|exact .inl rfl|exact .inr rfl|assumption) :
  PS X (.Assign [.Name y py] (.ListComp elt [⟨tg,iter,ifs,0⟩] scope pos) spos) (tAsg (tComp js wi g tf te) (gName i)):=by
 intro pins s σ H D I h
 rw[exec_Assign_Name_used _ _ _ _ hsw]
 refine wpAny_bind (wpAny_standAt (wpAny_bind ?_))
 show wpAny _ X.A (do let _ ← comprehension (.ListComp elt [⟨tg,iter,ifs,0⟩] scope pos) scope X.env _ (newList []) false (eval iter X.env) (some (assign (.Name y py) X.env))) _ _ s
 refine wpAny_bind (wpAny_mono (wpAny_comprehension_free (use:=some (assign (.Name y py) X.env)) (Q:=fun _ s'=>SP X pins D .next s') rfl hs B.clos B.kind B.names
  (thn (hi pins s σ H _ I h) fun xv s1 h1=>thn h1 fun itv s2 h2=>?_)) (fun _ s' hq=>wpAny_pure (wpAny_pure hq)) fun _ _ e=>e)
 obtain⟨it,fp,tn,J,H2,e,I2,T,st2,f2,cg⟩:=h2
 subst e
 refine ϲJ (RR:=fun acc C=>compPost (model X.prog X.w) X.A X.xe (some (assign (.Name y py) X.env)) (fun _ s'=>SP X pins D .next s') acc C) hc B hg hf he I2 T st2 f2 cg ?_
 intro Dd Cc m s4 Hx IX q hn hC cL cS cC cP
 show wpAny _ X.A (assign (.Name y py) X.env (.ref Dd)) _ _ _
 refine wpAny_assign_Name (ϲE IX hN hy hx (v:=.ref Dd) rfl (fun s5 I5 ⟨b,hb,hb'⟩=>?_) hfn)
 have hCb:Cc≠b:=fun z=>by
  rcases hb' with w|w
  ·exact cL (z.trans w)
  ·exact cC y b w z.symm
 refine⟨m,hn.sameBut hb hCb,fun h' hs'=>⟨_,Hx,I5.turned (t':=s5.toks) (it:=Cc) (fun b o hb e=>(hs'.2 b hb).trans e) hC cL (.inr cS) cC cP,q⟩⟩
end
def capt (env:Env):List (Str×NameKind)→List (Str×Addr)→List (Str×Addr)
 |[],acc=>acc
 |(n,k)::r,acc=>capt env r (if k == .free then (match env.cells.lookup n with|some c=>(n,c)::acc|none=>acc) else acc)
theorem ϕ_ {n y:Str}{c:Addr}{acc:List (Str×Addr)}:((n,c)::acc).lookup y=if y == n then some c else acc.lookup y:=by
 rw[List.lookup_cons];cases y == n<;>rfl
theorem ϟj {env:Env}:∀(names:List (Str×NameKind)) (acc:List (Str×Addr)),(∀ y c,acc.lookup y=some c→env.cells.lookup y=some c)→∀y c,(capt env names acc).lookup y=some c→env.cells.lookup y=some c
 |[],acc,h,y,c,e=>h y c e
 |(n,k)::r,acc,h,y,c,e=>by
  unfold capt at e
  refine ϟj r _ (fun y c q=>?_) y c e
  split at q
  ·split at q
   ·rename_i c' hc
    rw[ϕ_] at q
    split at q
    ·rename_i hy
     cases q
     rw[eq_of_beq hy];exact hc
    ·exact h y c q
   ·exact h y c q
  ·exact h y c q
theorem ϲP {env:Env}{y:Str}:∀(names:List (Str×NameKind)) (acc:List (Str×Addr)),(∃ c,acc.lookup y=some c)→∃c,(capt env names acc).lookup y=some c
 |[],acc,h=>h
 |(n,k)::r,acc,h=>by
  unfold capt
  refine ϲP r _ ?_
  split
  ·split
   ·rw[ϕ_]
    split
    ·exact⟨_,rfl⟩
    ·exact h
   ·exact h
  ·exact h
theorem ϡ8 {env:Env}{y:Str} (hy:(env.cells.lookup y).isSome=true):∀(names:List (Str×NameKind)) (acc:List (Str×Addr)),(y,NameKind.free)∈names→∃c,(capt env names acc).lookup y=some c
 |(n,k)::r,acc,h=>by
  unfold capt
  rcases List.mem_cons.mp h with z|z
  ·cases z
   refine ϲP r _ ?_
   obtain⟨c,hc⟩:=Option.isSome_iff_exists.mp hy
   rw[if_pos (by rfl),hc]
   exact⟨c,by rw[ϕ_,if_pos (beq_self_eq_true y)]⟩
  ·exact ϡ8 hy r _ z
theorem ϲ3 {scope:Scope}{env:Env}{y:Str} (h0:∀z∈scope.names,z.2≠.cell) (h:(relabel scope env).names.lookup y=some .cell∨(relabel scope env).names.lookup y=some .free):(y,NameKind.free)∈scope.names:=by
 have mem:∃k,(k=NameKind.cell∨k=NameKind.free)∧(y,k)∈(relabel scope env).names:=by
  rcases h with h|h
  ·exact⟨_,.inl rfl,PySem.mem_of_lookup h⟩
  ·exact⟨_,.inr rfl,PySem.mem_of_lookup h⟩
 obtain⟨k,hk,hm⟩:=mem
 unfold relabel at hm
 obtain⟨⟨n,k'⟩,hm',e⟩:=List.mem_map.mp hm
 simp only at e
 split at e
 ·rename_i hc
  cases e
  have:k'=.free:=by
   simp only[Bool.and_eq_true,beq_iff_eq] at hc
   exact hc.1.1
  rw[← this];exact hm'
 ·cases e
  rcases hk with rfl|rfl
  ·exact absurd rfl (h0 _ hm')
  ·exact hm'
def chkFree (scope:Scope) (env:Env):Bool:=scope.names.all fun y=>y.2 != .free || (env.cells.lookup y.1).isSome
def ϰ6 (X:Cx) (scope:Scope):List Str→List (Option Nat)→Bool
 |[],[]=>true
 |y::N,o::js=>(match o with
  |none=>true
  |some j=>X.N[j]? == some y && (X.env.scope.names.lookup y == some .cell || X.env.scope.names.lookup y == some .free) && (relabel scope X.env).names.lookup y != some .local) && ϰ6 X scope N js
 |_,_=>false
theorem ϰU {X:Cx}{scope:Scope}:∀{N:List Str}{js:List (Option Nat)},ϰ6 X scope N js=true→js.length=N.length∧∀(i:Nat) y j,N[i]?=some y→js[i]?=some (some j)→X.N[j]?=some y∧Vis X.env.scope y∧X.env.scope.names.lookup y≠some .local∧(relabel scope X.env).names.lookup y≠some .local
 |[],[],_=>⟨rfl,fun i y j h=>by simp at h⟩
 |[],_::_,h=>by simp[ϰ6] at h
 |_::_,[],h=>by simp[ϰ6] at h
 |z::N,o::js,h=>by
  unfold ϰ6 at h
  rw[Bool.and_eq_true] at h
  obtain⟨l,t⟩:=ϰU h.2
  refine⟨by rw[List.length_cons,List.length_cons,l],fun i y j h1 h2=>?_⟩
  cases i with
  |zero=>
   simp at h1 h2
   subst h1 h2
   have h':=h.1
   simp only[Bool.and_eq_true,Bool.or_eq_true,beq_iff_eq,bne_iff_ne] at h'
   refine⟨h'.1.1,?_,?_,h'.2⟩
   ·rcases h'.1.2 with q|q
    ·exact .inr (.inl q)
    ·exact .inr (.inr q)
   ·rcases h'.1.2 with q|q<;>rw[q]<;>decide
  |succ i=>exact t i y j (by simpa using h1) (by simpa using h2)
theorem ϑx {X:Cx}{scope:Scope}{N':List Str}{js:List (Option Nat)} (clos:closureFor scope X.env=pure (capt X.env scope.names [])) (nocell:∀y∈scope.names,y.2≠.cell) (kind:scope.kind=.function)
  (names:∀y∈scope.names,y.2=.local→scope.names.lookup y.1=some .local) (free:chkFree scope X.env=true) (lent:ϰ6 X scope N' js=true):Blk X scope (capt X.env scope.names []) N' js where
 clos:=clos
 nocell:=nocell
 kind:=kind
 names:=names
 sub:=ϟj _ _ fun y c e=>nomatch e
 has:=fun y h=>by
  have hm:=ϲ3 nocell h
  have hf:=List.all_eq_true.mp free _ hm
  exact ϡ8 (by simpa using hf) _ _ hm
 len:=(ϰU lent).1
 lent:=(ϰU lent).2
theorem ϖU {K:PySem.W.Frag}{a:Addr}{xs:List V}{g:TG}{tf:TT}{te:TE}{τ:L2.St}{H:Hp}{Q:VK} (Pv:Nat→List V→L2.St→Hp→Prop) (h0:Pv 0 [] τ H) (hl:∀i ys τ H,Pv i ys τ H→SqL K H a xs)
  (hs:∀i x ys τ H,xs[i]?=some x→Pv i ys τ H→g x τ H fun τ2 H2=>tf τ2 H2 fun b H3=>if b=true then te τ2 H3 fun y H4=>ys.length < sizeLine∧Pv (i+1) (ys++[y]) τ2 H4 else Pv (i+1) ys τ2 H3)
  (hd:∀ys τ H,Pv xs.length ys τ H→∀p,H p=none→Q (.ref p) (upd H p (.lst ys))) :
  ϵc (Itl K a) g tf te Q τ H:=by
 refine⟨fun i m ys τ H=>m=xs.length-i∧i≤xs.length∧Pv i ys τ H,⟨xs.length,by simp,Nat.zero_le _,h0⟩,?_⟩
 rintro i m ys τ H ⟨rfl,hi,p⟩
 have q:=hl i ys τ H p
 by_cases hlt:i < xs.length
 ·refine .inr ⟨⟨xs,xs[i],q,by simp[hlt]⟩,Pv (i+1),fun ys' τ' H' p'=>⟨xs.length-(i+1),by omega,rfl,hlt,p'⟩,fun x H' y=>?_⟩
  obtain⟨e,y⟩:=y
  subst e
  exact hs i x ys τ _ (y xs q) p
 ·have e:i=xs.length:=by omega
  subst e
  exact .inl ⟨⟨xs,q,Nat.le_refl _⟩,hd ys τ H p⟩
theorem ϟN {lo:Int}{n:Nat}{g:TG}{tf:TT}{te:TE}{τ:L2.St}{H:Hp}{Q:VK} (Pv:Nat→List V→L2.St→Hp→Prop) (h0:Pv 0 [] τ H)
  (hs:∀i ys τ H,i < n→Pv i ys τ H→g (.int (lo+i)) τ H fun τ2 H2=>tf τ2 H2 fun b H3=>if b=true then te τ2 H3 fun y H4=>ys.length < sizeLine∧Pv (i+1) (ys++[y]) τ2 H4 else Pv (i+1) ys τ2 H3)
  (hd:∀ys τ H,Pv n ys τ H→∀p,H p=none→Q (.ref p) (upd H p (.lst ys))) :
  ϵc (Itr lo n) g tf te Q τ H:=by
 refine⟨fun i m ys τ H=>m=n-i∧i≤n∧Pv i ys τ H,⟨n,by simp,Nat.zero_le _,h0⟩,?_⟩
 rintro i m ys τ H ⟨rfl,hi,p⟩
 by_cases hlt:i < n
 ·refine .inr ⟨hlt,Pv (i+1),fun ys' τ' H' p'=>⟨n-(i+1),by omega,rfl,hlt,p'⟩,fun x H' y=>?_⟩
  obtain⟨e,y⟩:=y
  subst e y
  exact hs i ys τ _ hlt p
 ·have e:i=n:=by omega
  subst e
  exact .inl ⟨Nat.le_refl _,hd ys τ H p⟩
end L3
namespace L3
open PySem PySem.Spec PyProof.Rows L2
section
variable {prog:Program}{w:World}{A:Around}{E:Value→Shared→Prop}{s:Shared}{l:Addr}{xs:Array Value}
end
section
variable {X:Cx}
theorem ϵu:∀{xs:List Str}{us:List Value},Vals (xs.map V.str) us→StrsAre us xs
 |[],_,r=>by cases r;exact .nil
 |x::xs,_,r=>by
  cases r with
  |cons r1 r2=>
   obtain⟨t,rfl⟩:=r1
   exact .cons x t (ϵu r2)
def rJoin (K:PySem.W.Frag):V→List V→Hp→VK→Prop:=fun x vs H Q=>∃z p ys,x=.str z∧vs=[.ref p]∧SqL K H p (ys.map V.str)∧(ys.map (·.length)).sum+ys.length*z.length≤16777216∧Q (.str (Txt.join z ys)) H
theorem ϝq:MtR X "str.join" (rJoin X.K):=by
 intro pins s σ H x vs v us Q I rx rv h
 obtain⟨z,p,ys,rfl,rfl,hq,hz,q⟩:=h
 obtain⟨t,rfl⟩:=rx
 obtain⟨u,rfl,ru⟩:=ϱs rv
 cases ru
 obtain⟨its,ri,pl,_⟩:=I.list hq
 exact join_list pl.isList (by simpa using ϵu ri) hz fun t' k=>⟨.str (Txt.join z ys),H,I.tok _,⟨_,rfl⟩,q⟩
end
end L3
namespace L3
open PySem PySem.Spec PyProof.Rows L2
section
variable {X:Cx}{e st:Expr}{te ts:TE}{pos p2:Pos}
end
end L3
namespace L3
open PySem PySem.Spec PyProof.Rows L2
section
variable {rest:List Expr}{pos:Pos}{env:Env}
theorem ϲo {es:List Expr}{k:Nat}:starEach (.Tuple es k pos::rest) env=(false,eval (.Tuple es k pos) env)::starEach rest env:=rfl
theorem ϡz {es:List Expr}:starEach (.List es pos::rest) env=(false,eval (.List es pos) env)::starEach rest env:=rfl
theorem ϖQ {l i:Expr}:starEach (.Subscript l i pos::rest) env=(false,eval (.Subscript l i pos) env)::starEach rest env:=rfl
theorem ϱj {l r:Expr}{o:Operator}:starEach (.BinOp l o r pos::rest) env=(false,eval (.BinOp l o r pos) env)::starEach rest env:=rfl
theorem ϕj {f:Expr}{es:List Expr}{ks:List Keyword}:starEach (.Call f es ks pos::rest) env=(false,eval (.Call f es ks pos) env)::starEach rest env:=rfl
end
end L3
namespace ST
open PySem PySem.SetTable
def it:Nat→Nat→Nat
 |0,x=>x
 |n+1,x=>it n (5*x+1)
theorem ϝC:∀m n x,it (m+n) x=it n (it m x)
 |0,n,x=>by rw[Nat.zero_add];rfl
 |m+1,n,x=>by rw[Nat.succ_add];exact ϝC m n (5*x+1)
theorem it_pow (k:Nat):∃a,a % 2=1∧∀y,it (2 ^ k) y=y+2 ^ k*a*(4*y+1):=by
 induction k with
 |zero=>exact⟨1,rfl,fun y=>by show 5*y+1=y+1*1*(4*y+1);omega⟩
 |succ k ih=>
  obtain⟨a,ha,h⟩:=ih
  refine⟨a*(1+2 ^ (k+1)*a),?_,fun y=>?_⟩
  ·rw[Nat.mul_mod,ha,Nat.pow_succ,Nat.mul_comm (2 ^ k) 2,Nat.mul_assoc]
   omega
  ·rw[Nat.pow_succ,Nat.mul_two,ϝC,h,h]
   grind
theorem ϲC (k:Nat):∀x j,j < 2 ^ k→∃n,n < 2 ^ k∧it n x % 2 ^ k=j:=by
 induction k with
 |zero=>intro x j h;exact⟨0,by decide,by simp at h;subst h;simp[Nat.mod_one]⟩
 |succ k ih=>
  intro x j h
  have hp:0 < 2 ^ k:=Nat.two_pow_pos k
  have e:2 ^ (k+1)=2 ^ k*2:=Nat.pow_succ ..
  obtain⟨n,hn,hx⟩:=ih x (j % 2 ^ k) (Nat.mod_lt _ hp)
  obtain⟨a,ha,hi⟩:=it_pow k
  rw[e] at h⊢
  generalize 2 ^ k=N at *
  have small:∀r,r < N*2→r % N=if r < N then r else r-N:=fun r hr=>by
   split
   ·exact Nat.mod_eq_of_lt ‹_›
   ·rw[Nat.mod_eq_sub_mod (by omega),Nat.mod_eq_of_lt (by omega)]
  have r0:it n x % (N*2) < N*2:=Nat.mod_lt _ (by omega)
  have r1:it n x % (N*2) % N=j % N:=by rw[Nat.mod_mod_of_dvd _ ⟨2,rfl⟩];exact hx
  rw[small _ r0,small _ h] at r1
  by_cases c:it n x % (N*2)=j
  ·exact⟨n,by omega,c⟩
  ·refine⟨n+N,by omega,?_⟩
   have odd:∃b,a*(4*it n x+1)=2*b+1:=by
    obtain⟨c',rfl⟩:∃c',a=2*c'+1:=⟨a / 2,by omega⟩
    exact⟨c'*(4*it n x+1)+2*it n x,by grind⟩
   obtain⟨b,hb⟩:=odd
   have e2:it (n+N) x=it n x+N+N*2*b:=by
    rw[ϝC,hi,Nat.mul_assoc,hb];grind
   rw[e2,Nat.add_mul_mod_self_left,Nat.add_mod,Nat.mod_eq_of_lt (show N < N*2 by omega)]
   generalize it n x % (N*2)=r at *
   split at r1<;>split at r1
   ·omega
   ·have:j=r+N:=by omega
    rw[this,Nat.mod_eq_of_lt (by omega)]
   ·have:r=j+N:=by omega
    rw[this,show j+N+N=j+N*2 by omega,Nat.add_mod_right,Nat.mod_eq_of_lt h]
   ·omega
def adv (mask:Nat) (p:Probe):Probe:=
 if p.more > 0 then { p with j:=p.j+1,more:=p.more-1 } else
 { p with j:=(leap mask p.i p.perturb).1,more:=runEnd mask (leap mask p.i p.perturb).1-(leap mask p.i p.perturb).1,i:=(leap mask p.i p.perturb).1,perturb:=(leap mask p.i p.perturb).2 }
theorem ϟP (t:SetTable) (p:Probe):t.advance p=adv t.mask p:=by
 unfold advance adv
 split<;>rfl
def ϕ2 (mask i perturb:Nat):Probe:={ j:=i,more:=runEnd mask i-i,i,perturb,dummy:=none }
def st (mask:Nat) (h:Int):Probe:=ϕ2 mask (bits h % (mask+1)) (bits h)
def itr (mask:Nat):Nat→Probe→Probe
 |0,p=>p
 |n+1,p=>itr mask n (adv mask p)
theorem ϰA (mask:Nat):∀n p,itr mask (n+1) p=adv mask (itr mask n p)
 |0,_=>rfl
 |n+1,p=>ϰA mask n (adv mask p)
theorem ϵ6 (mask:Nat):∀m n p,itr mask (m+n) p=itr mask n (itr mask m p)
 |0,n,p=>by rw[Nat.zero_add];rfl
 |m+1,n,p=>by rw[Nat.succ_add];exact ϵ6 mask m n (adv mask p)
def pos (mask:Nat) (h:Int) (n:Nat):Nat:=(itr mask n (st mask h)).j
theorem ϡH (mask:Nat):∀r (p:Probe),r≤p.more→itr mask r p={ p with j:=p.j+r,more:=p.more-r }
 |0,p,_=>rfl
 |r+1,p,h=>by
  show itr mask r (adv mask p)=_
  have e:adv mask p={ p with j:=p.j+1,more:=p.more-1 }:=by unfold adv;rw[if_pos (by omega)]
  rw[e,ϡH mask r _ (by show r≤p.more-1;omega)]
  show({ j:=p.j+1+r,more:=p.more-1-r,i:=p.i,perturb:=p.perturb,dummy:=p.dummy }:Probe)={ j:=p.j+(r+1),more:=p.more-(r+1),i:=p.i,perturb:=p.perturb,dummy:=p.dummy }
  congr 1<;>omega
theorem more_le (mask i:Nat):runEnd mask i-i≤9:=by unfold runEnd;split<;>omega
theorem ϲp (mask i perturb:Nat):itr mask (runEnd mask i-i+1) (ϕ2 mask i perturb)=ϕ2 mask (leap mask i perturb).1 (leap mask i perturb).2:=by
 rw[ϰA,ϡH mask (runEnd mask i-i) (ϕ2 mask i perturb) (show runEnd mask i-i≤runEnd mask i-i from Nat.le_refl _)]
 unfold adv
 rw[if_neg (by show ¬ (runEnd mask i-i-(runEnd mask i-i) > 0);omega)]
 rfl
def bk (mask:Nat):Nat→Nat×Nat→Nat×Nat
 |0,x=>x
 |m+1,x=>bk mask m (leap mask x.1 x.2)
theorem ϲe (mask:Nat):∀m n x,bk mask (m+n) x=bk mask n (bk mask m x)
 |0,n,x=>by rw[Nat.zero_add];rfl
 |m+1,n,x=>by rw[Nat.succ_add];exact ϲe mask m n _
theorem ϡZ (mask:Nat):∀m i p,∃n,n≤10*m∧itr mask n (ϕ2 mask i p)=ϕ2 mask (bk mask m (i,p)).1 (bk mask m (i,p)).2
 |0,i,p=>⟨0,Nat.zero_le _,rfl⟩
 |m+1,i,p=>by
  obtain⟨n,hn,e⟩:=ϡZ mask m (leap mask i p).1 (leap mask i p).2
  have h9:=more_le mask i
  refine⟨runEnd mask i-i+1+n,by omega,?_⟩
  rw[ϵ6,ϲp,e]
  rfl
theorem ϰ5 (mask:Nat):∀m i p,(bk mask m (i,p)).2=p / 32 ^ m
 |0,i,p=>by simp[bk]
 |m+1,i,p=>by
  show(bk mask m ((leap mask i p).1,(leap mask i p).2)).2=_
  rw[ϰ5 mask m]
  show p / 32 / 32 ^ m=p / 32 ^ (m+1)
  rw[Nat.div_div_eq_div_mul,Nat.pow_succ,Nat.mul_comm]
theorem ϡe (mask:Nat):∀m x,x < mask+1→(bk mask m (x,0)).1=it m x % (mask+1)
 |0,x,h=>by show x=x % (mask+1);rw[Nat.mod_eq_of_lt h]
 |m+1,x,h=>by
  show(bk mask m ((x*5+1+0 / 32) % (mask+1),0 / 32)).1=it m (5*x+1) % (mask+1)
  rw[Nat.zero_div,Nat.add_zero,ϡe mask m _ (Nat.mod_lt _ (by omega))]
  have go:∀m a b,a % (mask+1)=b % (mask+1)→it m a % (mask+1)=it m b % (mask+1):=fun m=>by
   induction m with
   |zero=>intro a b h;exact h
   |succ m ih=>intro a b h;exact ih _ _ (by rw[Nat.add_mod,Nat.mul_mod,h,← Nat.mul_mod,← Nat.add_mod])
  refine go m _ _ ?_
  rw[Nat.mod_mod,Nat.mul_comm]
theorem ϝu (h:Int):bits h < 2 ^ 64:=by unfold bits;omega
theorem covers {mask k:Nat} (hm:mask+1=2 ^ k) (h:Int) {j:Nat} (hj:j≤mask):∃n,n < 10*(mask+14)∧pos mask h n=j:=by
 have hp:(bk mask 13 (bits h % (mask+1),bits h)).2=0:=by
  rw[ϰ5]
  refine Nat.div_eq_of_lt (Nat.lt_of_lt_of_le (ϝu h) (by decide))
 have hlt:(bk mask 13 (bits h % (mask+1),bits h)).1 < mask+1:=by
  show(bk mask (12+1) _).1 < _
  rw[ϲe]
  show(leap mask _ _).1 < _
  exact Nat.mod_lt _ (by omega)
 generalize hX:bk mask 13 (bits h % (mask+1),bits h)=X at hp hlt
 obtain⟨x,p⟩:=X
 dsimp only at hp hlt
 subst hp
 obtain⟨n,hn,e⟩:=ϲC k x j (by omega)
 rw[← hm] at hn e
 obtain⟨m,hm',em⟩:=ϡZ mask (13+n) (bits h % (mask+1)) (bits h)
 refine⟨m,by omega,?_⟩
 show(itr mask m (st mask h)).j=j
 unfold st
 rw[em,ϲe,hX]
 show(bk mask n (x,0)).1=j
 rw[ϡe _ _ _ hlt,e]
theorem least {P:Nat→Prop}:∀b,(∃ n,n < b∧P n)→∃n,n < b∧P n∧∀m,m < n→¬ P m
 |0,⟨_,h,_⟩=>absurd h (Nat.not_lt_zero _)
 |b+1,⟨n,hn,hp⟩=>by
  rcases Classical.em (∃ n,n < b∧P n) with c|c
  ·obtain⟨m,h1,h2,h3⟩:=least b c
   exact⟨m,by omega,h2,h3⟩
  ·have e:n=b:=by
    rcases Nat.lt_or_ge n b with z|z
    ·exact absurd ⟨n,z,hp⟩ c
    ·omega
   subst e
   exact⟨n,by omega,hp,fun m hm q=>c ⟨m,hm,q⟩⟩
theorem ϟT {mask k:Nat} (hm:mask+1=2 ^ k) (h:Int) {occ:List Nat} (ho:∃j,j≤mask∧j∉occ):∃n,n < 10*(mask+14)∧pos mask h n∉occ∧∀m,m < n→pos mask h m∈occ:=by
 obtain⟨j,hj,hn⟩:=ho
 obtain⟨n,h1,h2⟩:=covers hm h hj
 obtain⟨m,a,b,c⟩:=least (P:=fun n=>pos mask h n∉occ) (10*(mask+14)) ⟨n,h1,by show pos mask h n∉occ;rw[h2];exact hn⟩
 exact⟨m,a,b,fun q hq=>Classical.byContradiction fun z=>c q hq z⟩
theorem ϛf (mask:Nat) (h:Int):∀n,pos mask h n≤mask∧(itr mask n (st mask h)).j+(itr mask n (st mask h)).more≤mask
 |0=>by
  have h1:bits h % (mask+1) < mask+1:=Nat.mod_lt _ (by omega)
  refine⟨by show bits h % (mask+1)≤mask;omega,?_⟩
  show bits h % (mask+1)+(runEnd mask (bits h % (mask+1))-bits h % (mask+1))≤mask
  unfold runEnd;split<;>omega
 |n+1=>by
  obtain⟨_,ih⟩:=ϛf mask h n
  unfold pos
  rw[ϰA]
  generalize itr mask n (st mask h)=p at *
  unfold adv
  split
  ·exact⟨by show p.j+1≤mask;omega,by show p.j+1+(p.more-1)≤mask;omega⟩
  ·have h1:(leap mask p.i p.perturb).1 < mask+1:=Nat.mod_lt _ (by omega)
   generalize (leap mask p.i p.perturb).1=i at *
   refine⟨by show i≤mask;omega,?_⟩
   show i+(runEnd mask i-i)≤mask
   unfold runEnd;split<;>omega
theorem ϲZ (mask:Nat) (h:Int):∀n,(itr mask n (st mask h)).dummy=none
 |0=>rfl
 |n+1=>by
  rw[ϰA]
  have ih:=ϲZ mask h n
  unfold adv
  split<;>exact ih
end ST
namespace ST
open PySem PySem.SetTable
def Ris (xs:List Nat):Prop:=xs.Pairwise (· < ·)
theorem Ris.get {xs:Array Nat} (hr:Ris xs.toList) {i j:Nat} (hi:i < xs.size) (hj:j < xs.size) (h:i < j):xs[i] < xs[j]:=by
 have:=List.pairwise_iff_getElem.mp hr i j (by simpa using hi) (by simpa using hj) h
 simpa using this
theorem Ris.get_le {xs:Array Nat} (hr:Ris xs.toList) {i j:Nat} (hi:i < xs.size) (hj:j < xs.size) (h:i≤j):xs[i]≤xs[j]:=by
 rcases Nat.lt_or_ge i j with c|c
 ·exact Nat.le_of_lt (hr.get hi hj c)
 ·have:i=j:=by omega
  subst this;exact Nat.le_refl _
def Split (xs:Array Nat) (j r:Nat):Prop:=r≤xs.size∧(∀ i (h:i < xs.size),i < r→xs[i] < j)∧∀i (h:i < xs.size),r≤i→j≤xs[i]
theorem ϵ7 {xs:Array Nat} (hr:Ris xs.toList) (j:Nat):∀fuel lo hi,lo≤hi→hi≤xs.size→hi-lo≤fuel→(∀ i (h:i < xs.size),i < lo→xs[i] < j)→(∀ i (h:i < xs.size),hi≤i→j≤xs[i])→Split xs j (below.go xs j fuel lo hi)
 |0,lo,hi,h1,h2,h3,a,b=>by
  have:lo=hi:=by omega
  subst this
  exact⟨h2,a,b⟩
 |fuel+1,lo,hi,h1,h2,h3,a,b=>by
  unfold below.go
  by_cases c:lo < hi
  ·rw[if_pos c]
   dsimp only
   have hm:(lo+hi) / 2 < xs.size:=by omega
   rw[show xs.getD ((lo+hi) / 2) j=xs[(lo+hi) / 2] by simp[Array.getD,hm]]
   by_cases d:xs[(lo+hi) / 2] < j
   ·rw[if_pos d]
    exact ϵ7 hr j fuel _ _ (by omega) h2 (by omega) (fun i h q=>Nat.lt_of_le_of_lt (hr.get_le h hm (by omega)) d) b
   ·rw[if_neg d]
    exact ϵ7 hr j fuel _ _ (by omega) (by omega) (by omega) a (fun i h q=>Nat.le_trans (by omega) (hr.get_le hm h q))
  ·rw[if_neg c]
   have:lo=hi:=by omega
   subst this
   exact⟨h2,a,b⟩
theorem ϵt {xs:Array Nat} (hr:Ris xs.toList) (j:Nat):Split xs j (below xs j):=
 ϵ7 hr j _ _ _ (Nat.zero_le _) (Nat.le_refl _) (by omega) (fun i h q=>absurd q (Nat.not_lt_zero _)) (fun i h q=>absurd h (by omega))
theorem ϛr {xs:Array Nat} (hr:Ris xs.toList) {i j:Nat} (h:xs[i]?=some j):below xs j=i:=by
 obtain⟨hi,e⟩:=Array.getElem?_eq_some_iff.mp h
 obtain⟨h1,h2,h3⟩:=ϵt hr j
 rcases Nat.lt_trichotomy (below xs j) i with c|c|c
 ·have:=h3 _ (by omega) (Nat.le_refl (below xs j))
  have:=hr.get (i:=below xs j) (j:=i) (by omega) hi c
  omega
 ·exact c
 ·have:=h2 i hi c
  omega
theorem ϲH {t:SetTable} (hr:Ris t.place.toList) {i j:Nat} (h:t.place[i]?=some j):t.slot j=.live i:=by
 unfold SetTable.slot
 dsimp only
 rw[ϛr hr h,h]
 simp
theorem ϟO {t:SetTable} (hd:t.dummies=#[]) {j:Nat} (h:j∉t.place.toList):t.slot j=.empty:=by
 unfold SetTable.slot
 dsimp only
 have e:(t.place[below t.place j]? == some j)=false:=by
  rw[beq_eq_false_iff_ne]
  intro q
  obtain⟨hi,e⟩:=Array.getElem?_eq_some_iff.mp q
  exact h (by rw[← e];simp)
 rw[e,hd]
 simp[has]
theorem ϟc {t:SetTable} (hr:Ris t.place.toList) {j:Nat} (h:j∈t.place.toList):∃i,t.place[i]?=some j∧t.slot j=.live i:=by
 obtain⟨i,hi,e⟩:=List.getElem_of_mem h
 have:t.place[i]?=some j:=by rw[← Array.getElem?_toList,List.getElem?_eq_getElem hi,e]
 exact⟨i,this,ϲH hr this⟩
theorem ϛX:∀(n:Nat) (xs:List Nat),(∀ j,j < n→j∈xs)→n≤xs.length
 |0,_,_=>Nat.zero_le _
 |n+1,xs,h=>by
  have hn:=h n (by omega)
  have:=ϛX n (xs.erase n) fun j hj=>(List.mem_erase_of_ne (by omega)).mpr (h j (by omega))
  rw[List.length_erase_of_mem hn] at this
  have:0 < xs.length:=List.length_pos_of_mem hn
  omega
theorem ϲy {mask:Nat}{xs:List Nat} (h:xs.length≤mask):∃j,j≤mask∧j∉xs:=by
 refine Classical.byContradiction fun c=>?_
 have:=ϛX (mask+1) xs fun j hj=>Classical.byContradiction fun q=>c ⟨j,by omega,q⟩
 omega
structure Good (t:SetTable) (hs:List Int):Prop where
 pw:∃k,3≤k∧t.mask+1=2 ^ k
 dum:t.dummies=#[]
 ris:Ris t.place.toList
 le:∀j∈t.place.toList,j≤t.mask
 len:t.place.size=hs.length
 room:t.place.size≤t.mask
 reach:∀x∈t.place.toList.zip hs,∃q,pos t.mask x.2 q=x.1∧∀m,m < q→pos t.mask x.2 m∈t.place.toList
theorem Good.free {t:SetTable}{hs:List Int} (g:Good t hs) (h:Int):∃n,n < 10*(t.mask+14)∧pos t.mask h n∉t.place.toList∧∀m,m < n→pos t.mask h m∈t.place.toList:=by
 obtain⟨k,_,hk⟩:=g.pw
 exact ϟT hk h (ϲy (by rw[Array.length_toList];exact g.room))
theorem Good.odd {t:SetTable}{hs:List Int} (g:Good t hs):t.gaveWay=false:=by
 obtain⟨k,h3,hk⟩:=g.pw
 obtain⟨j,rfl⟩:∃j,k=j+1:=⟨k-1,by omega⟩
 rw[Nat.pow_succ] at hk
 unfold SetTable.gaveWay
 rw[beq_eq_false_iff_ne]
 omega
theorem Good.fits {t:SetTable}{hs:List Int} (g:Good t hs):t.fits hs.length=true:=by
 unfold SetTable.fits SetTable.fill
 rw[g.dum,g.len]
 have:=g.room
 rw[g.len] at this
 simp[this]
theorem ϡ6 {t:SetTable}{hs:List Int} (g:Good t hs) (h:Int) {N:Nat} (hN:pos t.mask h N∉t.place.toList) (hO:∀m,m < N→pos t.mask h m∈t.place.toList) (hashAt:Nat→Int) :
  ∀fuel q,q≤N→N-q < fuel →
   (probe.go t hashAt h fuel (itr t.mask q (st t.mask h))=some (.empty (pos t.mask h N) none)∧∀m i,q≤m→m < N→t.slot (pos t.mask h m)=.live i→hashAt i≠h) ∨
   ∃m i,q≤m∧m < N∧t.slot (pos t.mask h m)=.live i∧hashAt i=h∧probe.go t hashAt h fuel (itr t.mask q (st t.mask h))=some (.candidate (pos t.mask h m) i (itr t.mask (m+1) (st t.mask h))) ∧
    ∀m' i,q≤m'→m' < m→t.slot (pos t.mask h m')=.live i→hashAt i≠h
 |0,q,h1,h2=>absurd h2 (Nat.not_lt_zero _)
 |fuel+1,q,h1,h2=>by
  unfold probe.go
  by_cases e:q=N
  ·subst e
   rw[show t.slot (itr t.mask q (st t.mask h)).j=.empty from ϟO g.dum hN]
   refine .inl ⟨?_,fun m i a b=>absurd b (by omega)⟩
   show some (Met.empty (itr t.mask q (st t.mask h)).j (itr t.mask q (st t.mask h)).dummy)=_
   rw[ϲZ];rfl
  ·obtain⟨i,hi,hs'⟩:=ϟc g.ris (hO q (by omega))
   rw[show t.slot (itr t.mask q (st t.mask h)).j=.live i from hs']
   dsimp only
   rw[show t.advance (itr t.mask q (st t.mask h))=itr t.mask (q+1) (st t.mask h) by rw[ϟP,← ϰA]]
   by_cases c:hashAt i=h
   ·rw[if_pos (by rw[c];exact beq_self_eq_true h)]
    exact .inr ⟨q,i,Nat.le_refl _,by omega,hs',c,rfl,fun m' i a b=>absurd b (by omega)⟩
   ·rw[if_neg (by simpa using c)]
    rcases ϡ6 g h hN hO hashAt fuel (q+1) (by omega) (by omega) with⟨a,b⟩|⟨m,i',a1,a2,a3,a4,a5,a6⟩
    ·refine .inl ⟨a,fun m i' h1' h2' h3'=>?_⟩
     by_cases z:m=q
     ·subst z;rw[hs'] at h3';cases h3';exact c
     ·exact b m i' (by omega) h2' h3'
    ·refine .inr ⟨m,i',by omega,a2,a3,a4,a5,fun m' i'' h1' h2' h3'=>?_⟩
     by_cases z:m'=q
     ·subst z;rw[hs'] at h3';cases h3';exact c
     ·exact a6 m' i'' (by omega) h2' h3'
theorem ϕi {α:Type} (xs:Array α) (p:Nat) (x:α):(insertAt xs p x).toList=xs.toList.take p++x::xs.toList.drop p:=by
 unfold insertAt
 simp[Array.toList_extract,List.take_of_length_le]
theorem ϟK {xs:Array Nat} (hr:Ris xs.toList) {j:Nat} (hn:j∉xs.toList):Ris (insertAt xs (below xs j) j).toList:=by
 obtain⟨h1,h2,h3⟩:=ϵt hr j
 rw[ϕi]
 unfold Ris at *
 have low:∀a∈xs.toList.take (below xs j),a < j:=fun a ha=>by
  obtain⟨i,hi,e⟩:=List.getElem_of_mem ha
  rw[List.length_take] at hi
  rw[List.getElem_take] at e
  have:=h2 i (by rw[Array.length_toList] at hi;omega) (by omega)
  rw[← e];simpa using this
 have high:∀a∈xs.toList.drop (below xs j),j < a:=fun a ha=>by
  have hm:=List.mem_of_mem_drop ha
  obtain⟨i,hi,e⟩:=List.getElem_of_mem ha
  rw[List.length_drop,Array.length_toList] at hi
  rw[List.getElem_drop] at e
  have:=h3 (below xs j+i) (by omega) (by omega)
  have e':xs[below xs j+i]=a:=by rw[← e];simp
  rcases Nat.lt_or_ge j a with q|q
  ·exact q
  ·exact absurd (by rw[show j=a by omega];exact hm) hn
 rw[List.pairwise_append]
 refine⟨hr.sublist (List.take_sublist _ _),?_,fun a ha b hb=>?_⟩
 ·rw[List.pairwise_cons]
  exact⟨high,hr.sublist (List.drop_sublist _ _)⟩
 ·rcases List.mem_cons.mp hb with rfl|hb
  ·exact low a ha
  ·exact Nat.lt_trans (low a ha) (high b hb)
def insL {α:Type} (xs:List α) (p:Nat) (x:α):List α:=xs.take p++x::xs.drop p
theorem ϕU {α:Type} (xs:List α) (p:Nat) (x:α):(insL xs p x).Perm (x::xs):=by
 unfold insL
 refine List.perm_middle.trans ?_
 rw[List.take_append_drop]
theorem ϛQ {α β:Type}{xs:List α}{ys:List β} (h:xs.length=ys.length) (p:Nat) (x:α) (y:β):(insL xs p x).zip (insL ys p y)=insL (xs.zip ys) p (x,y):=by
 unfold insL
 rw[List.zip_append (by simp[h]),List.zip_cons_cons]
 simp only[List.zip,List.take_zipWith,List.drop_zipWith]
theorem Good.put {t:SetTable}{hs:List Int} (g:Good t hs) {h:Int}{n:Nat} (hn:pos t.mask h n∉t.place.toList) (ho:∀m,m < n→pos t.mask h m∈t.place.toList) (hr:t.place.size < t.mask) (pl:Bool) :
  Good { (t.put (pos t.mask h n)).1 with plain:=pl } (insL hs (below t.place (pos t.mask h n)) h):=by
 have hl:t.place.toList.length=hs.length:=by rw[Array.length_toList];exact g.len
 have e:(insertAt t.place (below t.place (pos t.mask h n)) (pos t.mask h n)).toList=insL t.place.toList (below t.place (pos t.mask h n)) (pos t.mask h n):=ϕi _ _ _
 have mem:∀a,a∈(insertAt t.place (below t.place (pos t.mask h n)) (pos t.mask h n)).toList↔a=pos t.mask h n∨a∈t.place.toList:=fun a=>by
  rw[e,(ϕU _ _ _).mem_iff,List.mem_cons]
 have ln:(insertAt t.place (below t.place (pos t.mask h n)) (pos t.mask h n)).size=t.place.size+1:=by
  rw[← Array.length_toList,e,(ϕU _ _ _).length_eq,List.length_cons,Array.length_toList]
 refine⟨g.pw,?_,ϟK g.ris hn,fun j hj=>?_,?_,?_,fun x hx=>?_⟩
 ·show(if has t.dummies (pos t.mask h n)=true then eraseAt t.dummies (below t.dummies (pos t.mask h n)) else t.dummies)=#[]
  rw[g.dum];simp[has]
 ·rcases (mem j).mp hj with rfl|q
  ·exact(ϛf _ _ _).1
  ·exact g.le j q
 ·show(insertAt t.place _ _).size=_
  rw[ln,(ϕU _ _ _).length_eq,List.length_cons,g.len]
 ·show(insertAt t.place _ _).size≤t.mask
  rw[ln];exact hr
 ·show ∃q,pos t.mask x.2 q=x.1∧∀m,m < q→pos t.mask x.2 m∈(insertAt t.place _ _).toList
  have hx':x∈(insertAt t.place (below t.place (pos t.mask h n)) (pos t.mask h n)).toList.zip (insL hs (below t.place (pos t.mask h n)) h):=hx
  rw[e,ϛQ hl,(ϕU _ _ _).mem_iff,List.mem_cons] at hx'
  rcases hx' with rfl|q
  ·exact⟨n,rfl,fun m hm=>(mem _).mpr (.inr (ho m hm))⟩
  ·obtain⟨q',a,b⟩:=g.reach x q
   exact⟨q',a,fun m hm=>(mem _).mpr (.inr (b m hm))⟩
end ST
namespace ST
open PySem PySem.SetTable
abbrev Ow:=Array (Option Nat)
def ϕV (o:Ow):List Nat:=(List.range o.size).filter fun j=>(o.getD j none).isSome
theorem mem_taken {o:Ow}{j:Nat}:j∈ϕV o↔∃i,o[j]?=some (some i):=by
 unfold ϕV
 rw[List.mem_filter,List.mem_range]
 constructor
 ·rintro⟨h1,h2⟩
  have e:o.getD j none=o[j]:=by simp[Array.getD,h1]
  rw[e] at h2
  obtain⟨i,hi⟩:=Option.isSome_iff_exists.mp h2
  exact⟨i,by rw[Array.getElem?_eq_getElem h1,hi]⟩
 ·rintro⟨i,hi⟩
  obtain⟨h1,e⟩:=Array.getElem?_eq_some_iff.mp hi
  refine⟨h1,?_⟩
  simp[Array.getD,h1,e]
theorem ϛd {o:Ow}{j:Nat} (h:j < o.size):((o.getD j (some 0)).isNone=true↔j∉ϕV o):=by
 rw[mem_taken]
 have e:o.getD j (some 0)=o[j]:=by simp[Array.getD,h]
 rw[e,Array.getElem?_eq_getElem h]
 cases o[j]<;>simp
theorem ϝO {mask:Nat}{o:Ow} (hsz:o.size=mask+1) (h:Int):∀m fuel i p n,m < fuel→i≤mask→itr mask n (st mask h)=ϕ2 mask i p→(bk mask m (i,p)).1∉ϕV o →
  ∃N,n≤N∧layClean.free mask o fuel i p=some (pos mask h N)∧pos mask h N∉ϕV o∧∀q,n≤q→q < N→pos mask h q∈ϕV o
 |m,0,i,p,n,hf,hi,hn,hb=>absurd hf (Nat.not_lt_zero _)
 |m,fuel+1,i,p,n,hf,hi,hn,hb=>by
  have hrun:∀k,k≤runEnd mask i-i→pos mask h (n+k)=i+k:=fun k hk=>by
   show(itr mask (n+k) (st mask h)).j=i+k
   rw[ϵ6,hn,ϡH mask k (ϕ2 mask i p) hk]
   rfl
  have hre:i≤runEnd mask i∧runEnd mask i≤mask:=by unfold runEnd;split<;>omega
  have ht:∀k,k≤runEnd mask i-i→((o.getD (i+k) (some 0)).isNone=true↔pos mask h (n+k)∉ϕV o):=fun k hk=>by
   rw[hrun k hk];exact ϛd (by omega)
  unfold layClean.free
  cases hf':(List.range (runEnd mask i+1-i)).find? fun k=>(o.getD (i+k) (some 0)).isNone with
  |some k=>
   obtain⟨a,b,c⟩:=List.find?_range_eq_some.mp hf'
   rw[List.mem_range] at b
   refine⟨n+k,by omega,?_,(ht k (by omega)).mp a,fun q h1 h2=>?_⟩
   ·rw[hrun k (by omega)]
   ·have d:=c (q-n) (by omega)
    have z:=ht (q-n) (by omega)
    rw[show n+(q-n)=q by omega] at z
    refine Classical.byContradiction fun y=>?_
    rw[z.mpr y] at d
    cases d
  |none=>
   have all:∀k,k≤runEnd mask i-i→pos mask h (n+k)∈ϕV o:=fun k hk=>by
    have d:=List.find?_range_eq_none.mp hf' k (by omega)
    have z:=ht k hk
    refine Classical.byContradiction fun y=>?_
    rw[z.mpr y] at d
    cases d
   dsimp only
   cases m with
   |zero=>
    have:=all 0 (Nat.zero_le _)
    rw[hrun 0 (Nat.zero_le _)] at this
    exact absurd this hb
   |succ m=>
    have hl:(leap mask i p).1≤mask:=Nat.le_of_lt_succ (Nat.mod_lt _ (by omega))
    obtain⟨N,a,b,c,d⟩:=ϝO hsz h m fuel (leap mask i p).1 (leap mask i p).2 (n+(runEnd mask i-i+1)) (by omega) hl (by rw[ϵ6,hn,ϲp]) hb
    refine⟨N,by omega,b,c,fun q h1 h2=>?_⟩
    by_cases z:q < n+(runEnd mask i-i+1)
    ·have:=all (q-n) (by omega)
     rwa [show n+(q-n)=q by omega] at this
    ·exact d q (by omega) h2
theorem ϝ7 {mask k:Nat} (hm:mask+1=2 ^ k) (h:Int) {j:Nat} (hj:j≤mask):∃m,m < mask+15∧(bk mask m (bits h % (mask+1),bits h)).1=j:=by
 have hp:(bk mask 13 (bits h % (mask+1),bits h)).2=0:=by
  rw[ϰ5]
  refine Nat.div_eq_of_lt (Nat.lt_of_lt_of_le (ϝu h) (by decide))
 have hlt:(bk mask 13 (bits h % (mask+1),bits h)).1 < mask+1:=by
  show(bk mask (12+1) _).1 < _
  rw[ϲe]
  show(leap mask _ _).1 < _
  exact Nat.mod_lt _ (by omega)
 generalize hX:bk mask 13 (bits h % (mask+1),bits h)=X at hp hlt
 obtain⟨x,p⟩:=X
 dsimp only at hp hlt
 subst hp
 obtain⟨n,hn,e⟩:=ϲC k x j (by omega)
 rw[← hm] at hn e
 refine⟨13+n,by omega,?_⟩
 rw[ϲe,hX]
 show(bk mask n (x,0)).1=j
 rw[ϡe _ _ _ hlt,e]
theorem ϝs {mask k:Nat} (hm:mask+1=2 ^ k) {o:Ow} (hsz:o.size=mask+1) (ho:∃j,j≤mask∧j∉ϕV o) (h:Int) :
  ∃N,layClean.free mask o (turns mask) (bits h % (mask+1)) (bits h)=some (pos mask h N)∧pos mask h N∉ϕV o∧∀q,q < N→pos mask h q∈ϕV o:=by
 obtain⟨j,hj,hn⟩:=ho
 obtain⟨m,h1,h2⟩:=ϝ7 hm h hj
 obtain⟨N,_,b,c,d⟩:=ϝO hsz h m (turns mask) (bits h % (mask+1)) (bits h) 0 (by unfold turns;omega) (Nat.le_of_lt_succ (Nat.mod_lt _ (by omega))) rfl (by rw[h2];exact hn)
 exact⟨N,b,c,fun q hq=>d q (Nat.zero_le _) hq⟩
structure Laid (mask:Nat) (hs:List Int) (o:Ow) (n:Nat):Prop where
 sz:o.size=mask+1
 lt:∀j i:Nat,o[j]?=some (some i)→i < n
 all:∀i,i < n→∃j:Nat,o[j]?=some (some i)
 inj:∀j j' i:Nat,o[j]?=some (some i)→o[j']?=some (some i)→j=j'
 reach:∀(j i:Nat) (h:Int),o[j]?=some (some i)→hs[i]?=some h→∃q,pos mask h q=j∧∀m,m < q→pos mask h m∈ϕV o
theorem ϲD {mask:Nat}{hs:List Int}{o:Ow}{n:Nat} (L:Laid mask hs o n):(ϕV o).length≤n:=by
 have hnd:(ϕV o).Nodup:=List.Nodup.sublist List.filter_sublist List.nodup_range
 have key:∀(l:List Nat) (n:Nat),l.Nodup→(∀ j∈l,∃i:Nat,i < n∧o[j]?=some (some i))→l.length≤n:=by
  intro l
  induction l with
  |nil=>intro n _ _;exact Nat.zero_le _
  |cons a r ih=>
   intro n hd hl
   have own:∀j∈a::r,∃i:Nat,i < n∧o[j]?=some (some i):=hl
   let f:Nat→Nat:=fun j=>match o[j]? with|some (some i)=>i|_=>0
   have hf:∀j∈a::r,o[j]?=some (some (f j)):=fun j hj=>by
    obtain⟨i,_,e⟩:=own j hj
    show o[j]?=some (some (match o[j]? with|some (some i)=>i|_=>0))
    rw[e]
   have h1:((a::r).map f).Nodup:=by
    rw[List.nodup_iff_pairwise_ne,List.pairwise_map]
    refine List.Pairwise.imp_of_mem (R:=fun x y=>x≠y) (fun {x y} hx hy hne e=>hne ?_) (List.nodup_iff_pairwise_ne.mp hd)
    exact L.inj x y (f x) (hf x hx) (by rw[e];exact hf y hy)
   have h2:∀i∈(a::r).map f,i < n:=fun i hi=>by
    obtain⟨j,hj,rfl⟩:=List.mem_map.mp hi
    obtain⟨i',h,e⟩:=own j hj
    have:=hf j hj
    rw[e] at this;cases this;exact h
   have p:((a::r).map f).length≤(List.range n).length:=List.Nodup.length_le_of_subset h1 fun i hi=>List.mem_range.mpr (h2 i hi)
   rwa [List.length_map,List.length_range] at p
 exact key _ n hnd fun j hj=>let ⟨i,e⟩:=mem_taken.mp hj;⟨i,L.lt j i e,e⟩
end ST
namespace ST
open PySem PySem.SetTable
theorem ϲf {o:Ow}{j n:Nat} (hj:j < o.size) (a:Nat):a∈ϕV (o.setIfInBounds j (some n))↔a=j∨a∈ϕV o:=by
 rw[mem_taken,mem_taken]
 by_cases e:a=j
 ·subst e
  simp[Array.getElem?_setIfInBounds,hj]
 ·have:(o.setIfInBounds j (some n))[a]?=o[a]?:=by rw[Array.getElem?_setIfInBounds,if_neg (fun h=>e h.symm)]
  rw[this];simp[e]
theorem Laid.more {mask k:Nat}{hs:List Int}{o:Ow}{n:Nat} (hm:mask+1=2 ^ k) (L:Laid mask hs o n) (hn:n≤mask) {h:Int} (hh:hs[n]?=some h) :
  ∃j,layClean.free mask o (turns mask) (bits h % (mask+1)) (bits h)=some j∧Laid mask hs (o.setIfInBounds j (some n)) (n+1):=by
 obtain⟨N,a,b,c⟩:=ϝs hm L.sz (ϲy (Nat.le_trans (ϲD L) hn)) h
 have hj:pos mask h N < o.size:=by rw[L.sz];exact Nat.lt_succ_of_le (ϛf mask h N).1
 refine⟨_,a,?_⟩
 generalize hJ:pos mask h N=J at *
 have at_:∀x i:Nat,(o.setIfInBounds J (some n))[x]?=some (some i)→(x=J∧i=n)∨(x≠J∧o[x]?=some (some i)):=fun x i e=>by
  rw[Array.getElem?_setIfInBounds] at e
  by_cases z:J=x
  ·subst z
   rw[if_pos rfl,if_pos hj] at e
   cases e;exact .inl ⟨rfl,rfl⟩
  ·rw[if_neg z] at e
   exact .inr ⟨fun q=>z q.symm,e⟩
 have hJf:∀i,o[J]?≠some (some i):=fun i e=>b (mem_taken.mpr ⟨i,e⟩)
 refine⟨by rw[Array.size_setIfInBounds];exact L.sz,fun x i e=>?_,fun i hi=>?_,fun x y i e1 e2=>?_,fun x i h' e1 e2=>?_⟩
 ·rcases at_ x i e with⟨_,rfl⟩|⟨_,e⟩
  ·exact Nat.lt_succ_self _
  ·exact Nat.lt_succ_of_lt (L.lt x i e)
 ·by_cases z:i=n
  ·subst z
   exact⟨J,by rw[Array.getElem?_setIfInBounds,if_pos rfl,if_pos hj]⟩
  ·obtain⟨x,e⟩:=L.all i (by omega)
   refine⟨x,?_⟩
   rw[Array.getElem?_setIfInBounds,if_neg (fun q=>by subst q;exact hJf i e)]
   exact e
 ·rcases at_ x i e1 with⟨rfl,rfl⟩|⟨n1,f1⟩
  ·rcases at_ y i e2 with⟨rfl,_⟩|⟨n2,e2⟩
   ·rfl
   ·exact absurd (L.lt y i e2) (Nat.lt_irrefl _)
  ·rcases at_ y i e2 with⟨rfl,rfl⟩|⟨n2,f2⟩
   ·exact absurd (L.lt x i f1) (Nat.lt_irrefl _)
   ·exact L.inj x y i f1 f2
 ·rcases at_ x i e1 with⟨rfl,rfl⟩|⟨n1,e1⟩
  ·rw[hh] at e2;cases e2
   exact⟨N,hJ,fun m hm=>(ϲf hj _).mpr (.inr (c m hm))⟩
  ·obtain⟨q,q1,q2⟩:=L.reach x i h' e1 e2
   exact⟨q,q1,fun m hm=>(ϲf hj _).mpr (.inr (q2 m hm))⟩
theorem ϰD {mask k:Nat} (hm:mask+1=2 ^ k) {hs:List Int} (hl:hs.length≤mask+1):∀(rest pre:List Int) (o:Ow),hs=pre++rest→Laid mask hs o pre.length →
  ∃o',rest.foldl (fun acc h=>do let (owner,k) ← acc;let j ← layClean.free mask owner (turns mask) (bits h % (mask+1)) (bits h);pure (owner.setIfInBounds j (some k),k+1)) (some (o,pre.length))=some (o',hs.length)∧Laid mask hs o' hs.length
 |[],pre,o,e,L=>by
  rw[List.append_nil] at e;subst e
  exact⟨o,rfl,L⟩
 |h::rest,pre,o,e,L=>by
  have hh:hs[pre.length]?=some h:=by rw[e];simp
  have hlen:pre.length≤mask:=by
   have:=congrArg List.length e
   rw[List.length_append,List.length_cons] at this
   omega
  obtain⟨j,a,b⟩:=L.more hm hlen hh
  obtain⟨o',c,d⟩:=ϰD hm hl rest (pre++[h]) (o.setIfInBounds j (some pre.length)) (by rw[List.append_assoc];exact e) (by rw[List.length_append];exact b)
  refine⟨o',?_,d⟩
  rw[List.foldl_cons,← c]
  congr 1
  show(do let j ← layClean.free mask o (turns mask) (bits h % (mask+1)) (bits h);pure (o.setIfInBounds j (some pre.length),pre.length+1))=_
  rw[a,List.length_append]
  rfl
theorem ϵR {mask k:Nat} (hm:mask+1=2 ^ k) {hs:Array Int} (hl:hs.size≤mask+1):∃o,layClean mask hs=some o∧Laid mask hs.toList o hs.size:=by
 have L0:Laid mask hs.toList (Array.replicate (mask+1) none) ([]:List Int).length:=
  ⟨by simp,fun j i e=>by
   rw[Array.getElem?_replicate] at e
   split at e<;>simp at e,fun i hi=>absurd hi (Nat.not_lt_zero _),fun j j' i e=>by
   rw[Array.getElem?_replicate] at e
   split at e<;>simp at e,fun j i h e=>by
   rw[Array.getElem?_replicate] at e
   split at e<;>simp at e⟩
 obtain⟨o,a,b⟩:=ϰD hm (by simpa using hl) hs.toList [] _ rfl L0
 refine⟨o,?_,by simpa using b⟩
 unfold layClean
 rw[← Array.foldl_toList]
 show Option.map _ (List.foldl _ (some (Array.replicate (mask+1) none,([]:List Int).length)) hs.toList)=_
 rw[a]
 rfl
theorem ϱm (w:Nat):∀fuel k,w < 2 ^ fuel*2 ^ k→∃k',k≤k'∧sizeAbove.go w fuel (2 ^ k)=2 ^ k'∧w < 2 ^ k'∧(2 ^ k'=2 ^ k∨2 ^ k'≤2*w)
 |0,k,h=>⟨k,Nat.le_refl _,rfl,by simpa using h,.inl rfl⟩
 |fuel+1,k,h=>by
  unfold sizeAbove.go
  by_cases c:2 ^ k≤w
  ·rw[if_pos c,← Nat.pow_succ]
   obtain⟨k',a,b,d,e⟩:=ϱm w fuel (k+1) (by rw[Nat.pow_succ] at h⊢;rw[Nat.mul_comm (2 ^ k) 2,← Nat.mul_assoc];exact h)
   refine⟨k',by omega,b,d,.inr ?_⟩
   rcases e with e|e
   ·rw[e,Nat.pow_succ];omega
   ·exact e
  ·rw[if_neg c]
   exact⟨k,Nat.le_refl _,rfl,by omega,.inl rfl⟩
theorem sizeAbove_spec {w:Nat} (h:w < 2 ^ 60):∃k,3≤k∧sizeAbove w=2 ^ k∧w < 2 ^ k∧(2 ^ k=8∨2 ^ k≤2*w):=
 ϱm w 64 3 (Nat.lt_of_lt_of_le h (by decide))
def ϑt (mask:Nat) (o:Ow):List (Nat×Nat):=(List.range (mask+1)).filterMap fun j=>(o.getD j none).map (j,·)
theorem ϕt {mask:Nat}{o:Ow} (hs:o.size=mask+1) {j i:Nat}:(j,i)∈ϑt mask o↔o[j]?=some (some i):=by
 unfold ϑt
 rw[List.mem_filterMap]
 constructor
 ·rintro⟨a,ha,e⟩
  rw[List.mem_range] at ha
  have g:o.getD a none=o[a]:=by simp[Array.getD,show a < o.size by omega]
  rw[g,Option.map_eq_some_iff] at e
  obtain⟨b,e1,e2⟩:=e
  cases e2
  rw[Array.getElem?_eq_getElem (by omega),e1]
 ·intro e
  obtain⟨h1,e1⟩:=Array.getElem?_eq_some_iff.mp e
  refine⟨j,List.mem_range.mpr (by omega),?_⟩
  have g:o.getD j none=o[j]:=by simp[Array.getD,h1]
  rw[g,e1];rfl
theorem ϟn (mask:Nat) (o:Ow):Ris ((ϑt mask o).map (·.1)):=by
 unfold ϑt Ris
 have key:∀l:List Nat,l.Pairwise (· < ·)→((l.filterMap fun j=>(o.getD j none).map (j,·)).map (·.1)).Pairwise (· < ·)∧∀x∈(l.filterMap fun j=>(o.getD j none).map (j,·)).map (·.1),x∈l:=by
  intro l
  induction l with
  |nil=>intro _;exact⟨by simp,by simp⟩
  |cons a r ih=>
   intro h
   rw[List.pairwise_cons] at h
   obtain⟨p,q⟩:=ih h.2
   rw[List.filterMap_cons]
   cases hc:(o.getD a none).map (a,·) with
   |none=>exact⟨p,fun x hx=>List.mem_cons_of_mem _ (q x hx)⟩
   |some y=>
    rw[Option.map_eq_some_iff] at hc
    obtain⟨b,_,rfl⟩:=hc
    rw[List.map_cons,List.pairwise_cons]
    refine⟨⟨fun x hx=>h.1 x (q x hx),p⟩,fun x hx=>?_⟩
    rcases List.mem_cons.mp hx with rfl|hx
    ·exact List.mem_cons_self
    ·exact List.mem_cons_of_mem _ (q x hx)
 exact(key _ List.pairwise_lt_range).1
theorem ϡn {α:Type} (l:List α):(List.range l.length).filterMap (fun i=>l[i]?)=l:=by
 induction l with
 |nil=>rfl
 |cons a r ih=>
  rw[List.length_cons,List.range_succ_eq_map,List.filterMap_cons]
  simp only[List.getElem?_cons_zero,List.filterMap_map]
  congr 1
theorem laid_good {mask k:Nat} (h3:3≤k) (hm:mask+1=2 ^ k) {es:Array (Int×Value)} (hl:es.size≤mask) (f mv:Nat) (ld pl:Bool) :
  ∃t order,laid mask f mv ld pl (es.map (·.1))=some (t,order)∧t.mask=mask∧List.Perm (order.filterMap (es[·]?)).toList es.toList∧Good t ((order.filterMap (es[·]?)).toList.map (·.1)):=by
 obtain⟨o,a,L⟩:=ϵR hm (hs:=es.map (·.1)) (by rw[Array.size_map];omega)
 rw[Array.size_map] at L
 have hord:((ϑt mask o).map (·.2)).Nodup:=by
  rw[List.nodup_iff_pairwise_ne,List.pairwise_map]
  have hp:(ϑt mask o).Pairwise fun x y=>x.1 < y.1:=List.pairwise_map.mp (ϟn mask o)
  refine List.Pairwise.imp_of_mem (fun {x y} hx hy hlt e=>?_) hp
  have e1:=(ϕt L.sz (j:=x.1) (i:=x.2)).mp hx
  have e2:=(ϕt L.sz (j:=y.1) (i:=y.2)).mp hy
  rw[← e] at e2
  have:=L.inj _ _ _ e1 e2
  omega
 have hperm:List.Perm ((ϑt mask o).map (·.2)) (List.range es.size):=by
  refine(List.perm_ext_iff_of_nodup hord List.nodup_range).mpr fun i=>?_
  rw[List.mem_map,List.mem_range]
  constructor
  ·rintro⟨x,hx,rfl⟩
   exact L.lt _ _ ((ϕt L.sz (j:=x.1) (i:=x.2)).mp hx)
  ·intro hi
   obtain⟨j,e⟩:=L.all i hi
   exact⟨(j,i),(ϕt L.sz).mpr e,rfl⟩
 refine⟨{ mask,place:=((ϑt mask o).map (·.1)).toArray,dummies:=#[],finger:=f,led:=ld,moves:=mv,plain:=pl },((ϑt mask o).map (·.2)).toArray,?_,rfl,?_,?_⟩
 ·unfold laid
  rw[a]
  rfl
 ·have e:((((ϑt mask o).map (·.2)).toArray).filterMap (es[·]?)).toList=((ϑt mask o).map (·.2)).filterMap (es[·]?):=by simp
  rw[e]
  refine(hperm.filterMap _).trans ?_
  have:=ϡn es.toList
  simp only[Array.length_toList,Array.getElem?_toList] at this
  rw[this]
 ·have picks:∀l:List (Nat×Nat),(∀ x∈l,x.2 < es.size)→(l.map (·.2)).filterMap (es[·]?)=l.map fun x=>(es[x.2]?).getD default:=by
   intro l
   induction l with
   |nil=>intro _;rfl
   |cons x r ih=>
    intro h
    have hx:=h x List.mem_cons_self
    rw[List.map_cons,List.filterMap_cons,Array.getElem?_eq_getElem hx,List.map_cons,ih fun y hy=>h y (List.mem_cons_of_mem _ hy),Array.getElem?_eq_getElem hx]
    rfl
  have hlt:∀x∈ϑt mask o,x.2 < es.size:=fun x hx=>L.lt _ _ ((ϕt L.sz (j:=x.1) (i:=x.2)).mp hx)
  have e:((((ϑt mask o).map (·.2)).toArray).filterMap (es[·]?)).toList=(ϑt mask o).map fun x=>(es[x.2]?).getD default:=by
   rw[← picks _ hlt];simp
  rw[e]
  have hlen:(ϑt mask o).length=es.size:=by
   have:=hperm.length_eq
   rw[List.length_map,List.length_range] at this
   exact this
  have hocc:∀j,j∈ϕV o→j∈(ϑt mask o).map (·.1):=fun j hj=>by
   obtain⟨i,e⟩:=mem_taken.mp hj
   exact List.mem_map.mpr ⟨(j,i),(ϕt L.sz).mpr e,rfl⟩
  refine⟨⟨k,h3,hm⟩,rfl,by simpa using ϟn mask o,fun j hj=>?_,?_,?_,fun x hx=>?_⟩
  ·have hj':j∈(ϑt mask o).map (·.1):=by simpa using hj
   obtain⟨x,hx,rfl⟩:=List.mem_map.mp hj'
   obtain⟨h1,_⟩:=Array.getElem?_eq_some_iff.mp ((ϕt L.sz (j:=x.1) (i:=x.2)).mp hx)
   rw[L.sz] at h1
   show x.1≤mask
   omega
  ·simp
  ·show(((ϑt mask o).map (·.1)).toArray).size≤mask
   rw[List.size_toArray,List.length_map,hlen];exact hl
  ·have hz:(((ϑt mask o).map (·.1)).toArray).toList.zip (((ϑt mask o).map fun x=>(es[x.2]?).getD default).map (·.1))=(ϑt mask o).map fun x=>(x.1,((es[x.2]?).getD default).1):=by
    simp[List.zip_map',List.map_map]
   have hx':x∈(ϑt mask o).map fun x=>(x.1,((es[x.2]?).getD default).1):=by rw[← hz];exact hx
   obtain⟨y,hy,rfl⟩:=List.mem_map.mp hx'
   have e1:=(ϕt L.sz (j:=y.1) (i:=y.2)).mp hy
   have hi:=hlt y hy
   have e2:(es.map (·.1)).toList[y.2]?=some ((es[y.2]?).getD default).1:=by
    rw[Array.getElem?_eq_getElem hi]
    simp[hi]
   obtain⟨q,q1,q2⟩:=L.reach y.1 y.2 _ e1 e2
   refine⟨q,q1,fun m hm'=>?_⟩
   have:=hocc _ (q2 m hm')
   simpa using this
end ST
namespace PySem
section
variable {prog:Program}{w:World}{K:Type} [DecidableEq K] (knd:KeyKind prog w K)
def ElT (h:Heap) (k:List K) (e:Int×Value):Prop:=∃b,e.2=.ref b∧IsTupleKey knd h k b∧e.1=tupleKeyHash knd k
def Heap.TupSet (h:Heap) (a:Addr) (S:List K→Bool) (n:Nat):Prop:=
 ∃o es ep t,h.get? a=some o∧o.ExactSet∧o.data=.set es ep t∧ST.Good t (es.toList.map (·.1))∧(∀ e∈es.toList,∃k,ElT knd h k e)∧(∀ k,S k=true↔∃e∈es.toList,ElT knd h k e)
  ∧es.size=n∧t.place.size*5 < t.mask*3∧(t.mask < 8∨t.mask < 8*n)
variable {knd}{A:Around}{E:Value→Shared→Prop}{s:Shared}
theorem ElT.inj {h:Heap}{k k':List K}{e:Int×Value} (x:ElT knd h k e) (y:ElT knd h k' e):k=k':=by
 obtain⟨b,e1,t1,_⟩:=x
 obtain⟨b',e2,t2,_⟩:=y
 rw[e1] at e2;cases e2
 exact t1.inj t2
theorem IsTupleKey.but {h h':Heap}{ks:List K}{a d:Addr}{o:Obj}{es ep t} (x:IsTupleKey knd h ks a) (ho:h.get? d=some o) (hd:o.data=.set es ep t) (hs:Heap.SameBut d h h'):IsTupleKey knd h' ks a:=by
 obtain⟨o',items,n,ho',hc,hd',hi⟩:=x
 have hne:a≠d:=by
  rintro rfl
  obtain rfl:o'=o:=Option.some.inj (ho'.symm.trans ho)
  rw[hd] at hd';exact nomatch hd'
 exact⟨o',items,n,(hs.2 a hne).trans ho',hc,hd',hi⟩
theorem ElT.but {h h':Heap}{k:List K}{e:Int×Value}{d:Addr}{o:Obj}{es ep t} (x:ElT knd h k e) (ho:h.get? d=some o) (hd:o.data=.set es ep t) (hs:Heap.SameBut d h h'):ElT knd h' k e:=
 let ⟨b,e1,e2,e3⟩:=x;⟨b,e1,e2.but ho hd hs,e3⟩
theorem ϲ4 {M:Model} (n:Nat) {v:Value} (h:carriedByValue v=true):ofAClassStatement n v=pure false:=by
 cases v<;>first|(cases n<;>rfl)|simp[carriedByValue] at h
theorem ϑ_ {ks:List K}{a:Addr}{Q:Bool→Shared→Prop} (hk:IsTupleKey knd s.heap ks a) (h:Q false s):wpAny (model prog w) A (ofAClassStatement 8 (.ref a)) Q E s:=by
 have hT:=hk.typeIs
 obtain⟨o,items,n,ho,_,hd,hi⟩:=hk
 unfold ofAClassStatement
 refine wpAny_bind (wpAny_typeOf hT ?_)
 dsimp only
 rw[if_pos (by decide)]
 refine wpAny_bind (wpAny_pure ?_)
 simp only[Bool.not_true,Bool.false_eq_true,if_false]
 refine wpAny_bind (wpAny_seqItems ho hd ?_)
 dsimp only
 refine wpAny_bind ?_
 rw[← Array.forIn_toList]
 refine wpAny_forIn_list _ (fun rest r s'=>r.1=none∧s'=s∧∀v∈rest,carriedByValue v=true) _ ?_ ?_ _ _ ⟨rfl,rfl,hi.byValue⟩
 ·rintro v rest r s' ⟨hr,rfl,hall⟩
  rw[ϲ4 (M:=model prog w) _ (hall v List.mem_cons_self)]
  refine wpAny_bind (wpAny_pure ?_)
  simp only[Bool.false_eq_true,if_false]
  exact wpAny_pure ⟨rfl,rfl,fun u hu'=>hall u (List.mem_cons_of_mem _ hu')⟩
 ·rintro⟨r1,r2⟩ s' ⟨hr,rfl,_⟩
  simp only at hr
  subst hr
  exact wpAny_pure h
theorem ϱK (n:Nat) {v:Value} (h:carriedByValue v=true):∃c,hashByValue n v=pure c:=by
 cases v<;>first|(cases n<;>exact⟨_,rfl⟩)|simp[carriedByValue] at h
theorem ϕR {ks:List K}{a:Addr}{Q:Bool→Shared→Prop} (hk:IsTupleKey knd s.heap ks a) (h:∀c,Q c s):wpAny (model prog w) A (hashByValue 8 (.ref a)) Q E s:=by
 have hT:=hk.typeIs
 obtain⟨o,items,n,ho,_,hd,hi⟩:=hk
 unfold hashByValue
 refine wpAny_bind (wpAny_specialOf hT F.slot_tuple_hash.lookup ?_)
 dsimp only
 refine wpAny_bind (wpAny_seqItems ho hd ?_)
 refine wpAny_bind ?_
 show wpAny _ _ (forIn items _ _) _ _ s
 rw[← Array.forIn_toList]
 refine wpAny_forIn_list _ (fun rest r s'=>r.1=none∧s'=s∧∀v∈rest,carriedByValue v=true) _ ?_ ?_ _ _ ⟨rfl,rfl,hi.byValue⟩
 ·rintro v rest r s' ⟨hr,rfl,hall⟩
  obtain⟨c,hc⟩:=ϱK 7 (hall v List.mem_cons_self)
  rw[hc]
  refine wpAny_bind (wpAny_pure ?_)
  cases c
  ·simp only[Bool.not_false,if_true]
   exact wpAny_pure (wpAny_pure (h _))
  ·simp only[Bool.not_true,Bool.false_eq_true,if_false]
   exact wpAny_pure ⟨rfl,rfl,fun u hu'=>hall u (List.mem_cons_of_mem _ hu')⟩
 ·rintro⟨r1,r2⟩ s' ⟨hr,rfl,_⟩
  simp only at hr
  subst hr
  exact wpAny_pure (h _)
theorem ϵ5 {k:List K}{b:Addr}{Q:Bool→Shared→Prop} (hk:IsTupleKey knd s.heap k b) {l:List Value} (hl:∀v∈l,∃k' b',v=.ref b'∧IsTupleKey knd s.heap k' b') (h:Q false s) :
  wpAny (model prog w) A (searchCouldBeSeen (.ref b) l) Q E s:=by
 unfold searchCouldBeSeen
 refine wpAny_bind ?_
 refine wpAny_forIn_list _ (fun rest r s'=>r.1=none∧s'=s∧∀v∈rest,∃k' b',v=.ref b'∧IsTupleKey knd s.heap k' b') _ ?_ ?_ _ _ ⟨rfl,rfl,hl⟩
 ·rintro v rest r s' ⟨hr,rfl,hall⟩
  obtain⟨k',b',rfl,hk'⟩:=hall v List.mem_cons_self
  have more:∀u∈rest,∃k' b',u=Value.ref b'∧IsTupleKey knd s'.heap k' b':=fun u hu=>hall u (List.mem_cons_of_mem _ hu)
  dsimp only
  split
  ·exact wpAny_pure ⟨rfl,rfl,more⟩
  ·refine wpAny_bind (wpAny_eqIsQuiet_tuple hk ?_)
   simp only[Bool.not_true,Bool.false_eq_true,if_false]
   refine wpAny_bind (wpAny_eqIsQuiet_tuple hk' ?_)
   simp only[Bool.not_true,Bool.false_eq_true,if_false]
   refine wpAny_bind (ϑ_ hk ?_)
   simp only[Bool.false_eq_true,if_false]
   refine wpAny_bind (ϑ_ hk' ?_)
   simp only[Bool.false_eq_true,if_false]
   exact wpAny_pure ⟨rfl,rfl,more⟩
 ·rintro⟨r1,r2⟩ s' ⟨hr,rfl,_⟩
  simp only at hr
  subst hr
  exact wpAny_pure h
end
end PySem
namespace PySem
section
variable {prog:Program}{w:World}{K:Type} [DecidableEq K] {knd:KeyKind prog w K}{A:Around}{E:Value→Shared→Prop}{s:Shared}
open ST in
theorem ϕn {a b:Addr}{k:List K}{o:Obj}{es:Array (Int×Value)}{ep:Nat}{t:SetTable}{Q:SetFound→Shared→Prop} (hu:A.units < cLine) (ho:s.heap.get? a=some o) (hd:o.data=.set es ep t)
  (g:Good t (es.toList.map (·.1))) (hel:∀e∈es.toList,∃k,ElT knd s.heap k e) (hk:IsTupleKey knd s.heap k b) {N:Nat} (hN:pos t.mask (tupleKeyHash knd k) N∉t.place.toList) (hO:∀m,m < N→pos t.mask (tupleKeyHash knd k) m∈t.place.toList)
  (hb:N < 10*(t.mask+15)) (hY:(∃ e∈es.toList,ElT knd s.heap k e)→Q (.there none) s) (hNo:(∀ e∈es.toList,¬ ElT knd s.heap k e)→Q (.free (pos t.mask (tupleKeyHash knd k) N) false) s) :
  ∀fuel q (stand:Option SetTable.Probe),N-q < fuel→q≤N→stand.getD (t.probeStart (tupleKeyHash knd k))=itr t.mask q (st t.mask (tupleKeyHash knd k)) →
   ((∃ e∈es.toList,ElT knd s.heap k e)→∃m i e,q≤m∧m < N∧t.slot (pos t.mask (tupleKeyHash knd k) m)=.live i∧es[i]?=some e∧ElT knd s.heap k e) →
   wpAny (model prog w) A (setSearchFrom a (.ref b) (tupleKeyHash knd k) true fuel stand) Q E s
 |0,q,stand,h1,h2,h3,h4=>absurd h1 (Nat.not_lt_zero _)
 |fuel+1,q,stand,h1,h2,h3,h4=>by
  have hf:t.fits es.size=true:=by have:=g.fits;simpa using this
  unfold setSearchFrom
  refine wpAny_bind (wpAny_setState_of ho hd hf ?_)
  dsimp only
  rw[g.odd]
  simp only[Bool.false_eq_true,if_false]
  rw[h3]
  unfold SetTable.probe
  rcases ϡ6 g (tupleKeyHash knd k) hN hO _ (10*SetTable.turns t.mask) q h2 (by unfold SetTable.turns;omega) with⟨e,all⟩|⟨m,i,a1,a2,a3,a4,a5,a6⟩
  ·rw[e]
   dsimp only
   refine wpAny_pure (hNo fun e he hk'=>?_)
   obtain⟨m,i,e',b1,b2,b3,b4,b5⟩:=h4 ⟨e,he,hk'⟩
   refine all m i b1 b2 b3 ?_
   show(es[i]?.map (·.1)).getD 0=_
   rw[b4]
   obtain⟨_,_,_,z⟩:=b5
   exact z
  ·rw[a5]
   dsimp only
   obtain⟨pi,hpi,hsl⟩:=ϟc g.ris (hO m a2)
   rw[a3] at hsl
   cases hsl
   have hi:i < es.size:=by
    have:=(Array.getElem?_eq_some_iff.mp hpi).1
    rw[g.len] at this
    simpa using this
   have hei:es[i]?=some es[i]:=Array.getElem?_eq_getElem hi
   have hmem:es[i]∈es.toList:=by simp
   obtain⟨k',b',eb,hk',hh'⟩:=hel _ hmem
   have key:∀U Y:Sem SetFound,wpAny (model prog w) A Y Q E s→wpAny (model prog w) A (if (!t.led)=true then do
     let c ← searchCouldBeSeen (Value.ref b) (List.map (fun x=>x.snd) (Array.filter (fun x=>x.fst == tupleKeyHash knd k) es).toList)
     if c=true then U else Y
    else Y) Q E s:=fun U Y q'=>by
    split
    ·refine wpAny_bind (ϵ5 hk (fun v hv=>?_) ?_)
     ·obtain⟨e,he,rfl⟩:=List.mem_map.mp hv
      have he':e∈es:=by
       simp at he
       exact he.1
      obtain⟨k'',b'',e1,e2,_⟩:=hel e (by simpa using he')
      exact⟨k'',b'',e1,e2⟩
     ·simp only[Bool.false_eq_true,if_false]
      exact q'
    ·exact q'
   refine key _ _ ?_
   rw[hei]
   dsimp only
   rw[eb]
   refine wpAny_bind (wpAny_holding (wpAny_eqBool_tuple hu hk' hk ?_))
   refine wpAny_bind (wpAny_setState_of ho hd hf ?_)
   dsimp only
   by_cases c:k'=k
   ·subst c
    rw[decide_eq_true rfl]
    simp only[Bool.and_self,if_true]
    exact wpAny_pure (hY ⟨_,hmem,b',eb,hk',hh'⟩)
   ·rw[decide_eq_false c]
    simp only[Bool.and_false,Bool.false_eq_true,if_false]
    have hsm:t.sameMemory t.moves t.mask=some true:=by unfold SetTable.sameMemory;simp
    rw[hsm]
    dsimp only
    rw[if_pos rfl,a3]
    dsimp only
    rw[hei]
    dsimp only
    rw[eb]
    refine wpAny_bind (wpAny_isSame_ref_self ?_)
    rw[if_pos rfl]
    refine wpAny_bind (wpAny_pure ?_)
    dsimp only
    refine ϕn hu ho hd g hel hk hN hO hb hY hNo fuel (m+1) (some _) (by omega) (by omega) rfl fun hx=>?_
    obtain⟨m',i',e',b1,b2,b3,b4,b5⟩:=h4 hx
    refine⟨m',i',e',?_,b2,b3,b4,b5⟩
    rcases Nat.lt_trichotomy m' m with z|z|z
    ·refine absurd ?_ (a6 m' i' b1 z b3)
     show(es[i']?.map (·.1)).getD 0=_
     rw[b4]
     obtain⟨_,_,_,z'⟩:=b5
     exact z'
    ·subst z
     rw[a3] at b3;cases b3
     rw[hei] at b4;cases b4
     exact absurd (ElT.inj ⟨b',eb,hk',hh'⟩ b5) c
    ·omega
end
end PySem
namespace PySem
section
variable {prog:Program}{w:World}{K:Type} [DecidableEq K] {knd:KeyKind prog w K}{A:Around}{E:Value→Shared→Prop}{s:Shared}
theorem ϵg {a:Addr}{o:Obj}{es:Array (Int×Value)}{ep:Nat}{t:SetTable}{wanted:Nat}{Q:Unit→Shared→Prop} (ho:s.heap.get? a=some o) (hd:o.data=.set es ep t)
  (hf:t.fits es.size=true) (hw:wanted < 100000) (hw2:4*es.size≤wanted)
  (h:∀es' t',List.Perm es'.toList es.toList→ST.Good t' (es'.toList.map (·.1))→wanted < t'.mask+1→(t'.mask+1=8∨t'.mask+1≤2*wanted)→Q () { s with heap:=s.heap.update a (Obj.putSet es' t') }) :
  wpAny (model prog w) A (setRelay a wanted) Q E s:=by
 obtain⟨k,h3,e,lt,le⟩:=ST.sizeAbove_spec (w:=wanted) (Nat.lt_of_lt_of_le hw (by decide))
 unfold setRelay
 refine wpAny_bind (wpAny_setState_of ho hd hf ?_)
 dsimp only
 have hsl:¬ SetTable.sizeAbove wanted > sizeLine:=by
  rw[e,sizeLine_eq]
  rcases le with z|z<;>omega
 rw[if_neg hsl]
 have hpos:0 < 2 ^ k:=Nat.two_pow_pos k
 have hm:(2 ^ k-1)+1=2 ^ k:=by omega
 obtain⟨t',order,el,em,perm,good⟩:=ST.laid_good h3 hm (es:=es) (by omega) t.finger (t.movedTo (2 ^ k-1)) t.led t.plain
 have er:t.relaid (es.map (·.1)) wanted=some (t',order):=by
  unfold SetTable.relaid
  rw[e];exact el
 rw[er]
 have hsz:(order.filterMap (es[·]?)).size=es.size:=by
  rw[← Array.length_toList,perm.length_eq,Array.length_toList]
 show wpAny (model prog w) A ((do
   let es':=order.filterMap (es[·]?)
   if es'.size != es.size then unsupported "internal:set-table-lost-an-element"
   pure (es',t')) >>= fun x=>storeSet a x.1 x.2) Q E s
 dsimp only
 rw[hsz]
 simp only[bne_self_eq_false,Bool.false_eq_true,if_false]
 refine wpAny_bind (wpAny_pure ?_)
 refine wpAny_storeSet_of ho hd (h _ _ perm good (by rw[em,hm];exact lt) (by rw[em,hm];exact le)) ?_
 rw[hsz,sizeLine_eq];omega
theorem ϱl {h:Heap}{a:Addr}{o:Obj}{es:Array (Int×Value)}{ep:Nat}{t:SetTable} (ho:h.get? a=some o) (hex:o.ExactSet) (hd:o.data=.set es ep t) (es':Array (Int×Value)) (t':SetTable) :
  (h.update a (Obj.putSet es' t')).get? a=some { o with data:=.set es' (ep+1) t' }∧Heap.SameBut a h (h.update a (Obj.putSet es' t'))∧({ o with data:=.set es' (ep+1) t' }:Obj).ExactSet:=by
 have hg:(h.update a (Obj.putSet es' t')).get? a=some { o with data:=.set es' (ep+1) t' }:=by
  have:=Heap.get?_update_self (Obj.putSet es' t') ho (by rw[putSet_of es' t' hd];rfl)
  rw[putSet_of es' t' hd] at this;exact this
 exact⟨hg,Heap.SameBut.update h a _,hex⟩
open ST in
theorem ϱr {a b:Addr}{k:List K}{S:List K→Bool}{n:Nat}{Q:Bool→Shared→Prop} (hu:A.units < cLine) (hS:s.heap.TupSet knd a S n) (hk:IsTupleKey knd s.heap k b) (hroom:n < 1000)
  (h:∀h',Heap.SameBut a s.heap h'→h'.TupSet knd a (fun k'=>S k' || decide (k'=k)) (if S k then n else n+1)→Q (!S k) { s with heap:=h' }) :
  wpAny (model prog w) A (setAddHashed a (.ref b) (tupleKeyHash knd k)) Q E s:=by
 obtain⟨o,es,ep,t,ho,hex,hd,g,hel,hmem,hn,hfull,hmask⟩:=hS
 have hf:t.fits es.size=true:=by have:=g.fits;simpa using this
 have hps:t.place.size=es.size:=by have:=g.len;simpa using this
 unfold setAddHashed
 refine wpAny_holding ?_
 unfold setAddHashedIn
 refine wpAny_bind (wpAny_setState_of ho hd hf ?_)
 dsimp only
 rw[show byScan (.ref b) es=false from rfl]
 simp only[Bool.false_eq_true,if_false]
 obtain⟨N,hN1,hN2,hN3⟩:=g.free (tupleKeyHash knd k)
 refine wpAny_bind ?_
 unfold setSearch
 refine ϕn hu ho hd g hel hk hN2 hN3 (by omega) (fun hx=>?_) (fun hx=>?_) 100000 0 none (by rcases hmask with z|z<;>omega) (Nat.zero_le _) rfl (fun⟨e,he,hke⟩=>?_)
 ·-- it is there
  dsimp only
  have hSk:S k=true:=(hmem k).mpr hx
  refine wpAny_pure ?_
  have:=h s.heap (Heap.SameBut.refl a s.heap) ⟨o,es,ep,t,ho,hex,hd,g,hel,fun k'=>by
   rw[Bool.or_eq_true,decide_eq_true_eq,← hmem k']
   exact⟨fun hk=>hk.elim id (fun e=>e▸hSk),.inl⟩,by rw[hSk];exact hn,hfull,by rw[hSk];exact hmask⟩
  rw[hSk] at this
  exact this
 ·-- it is new
  dsimp only
  have hSk:S k=false:=by
   cases hc:S k with
   |false=>rfl
   |true=>obtain⟨e,he,hp⟩:=(hmem k).mp hc;exact absurd hp (hx e he)
  rw[hSk] at h
  refine wpAny_bind (wpAny_setState_of ho hd hf ?_)
  dsimp only
  have hplain:∀Y:Bool→Sem Bool,(∀ c,wpAny (model prog w) A (Y c) Q E s)→wpAny (model prog w) A (if (t.put (pos t.mask (tupleKeyHash knd k) N)).1.plain=true then (hashByValue 8 (.ref b) >>= Y) else (pure true >>= Y)) Q E s:=fun Y hR=>by
   split
   ·exact wpAny_bind (ϕR hk hR)
   ·exact wpAny_bind (wpAny_pure (hR true))
  refine hplain _ fun c=>?_
  generalize hT:(if c=true then (t.put (pos t.mask (tupleKeyHash knd k) N)).1 else { (t.put (pos t.mask (tupleKeyHash knd k) N)).1 with plain:=false })=T
  have hr:t.place.size < t.mask:=by omega
  have hTg:∃pl,T={ (t.put (pos t.mask (tupleKeyHash knd k) N)).1 with plain:=pl }:=by
   cases c
   ·exact⟨false,by rw[← hT];rfl⟩
   ·exact⟨(t.put (pos t.mask (tupleKeyHash knd k) N)).1.plain,by rw[← hT];rfl⟩
  obtain⟨pl,hTe⟩:=hTg
  have g1:=g.put hN2 hN3 hr pl
  rw[← hTe] at g1
  generalize hES:SetTable.insertAt es (t.put (pos t.mask (tupleKeyHash knd k) N)).2 (tupleKeyHash knd k,Value.ref b)=ES
  have hESl:ES.toList=insL es.toList (SetTable.below t.place (pos t.mask (tupleKeyHash knd k) N)) (tupleKeyHash knd k,Value.ref b):=by
   rw[← hES];exact ϕi _ _ _
  have hESm:ES.toList.map (·.1)=insL (es.toList.map (·.1)) (SetTable.below t.place (pos t.mask (tupleKeyHash knd k) N)) (tupleKeyHash knd k):=by
   rw[hESl];unfold insL;simp[List.map_take,List.map_drop]
  rw[← hESm] at g1
  have hESp:ES.toList.Perm ((tupleKeyHash knd k,Value.ref b)::es.toList):=by rw[hESl];exact ϕU _ _ _
  have hESz:ES.size=n+1:=by
   have:=hESp.length_eq
   simp at this;omega
  have hTm:T.mask=t.mask:=by rw[hTe];rfl
  have hTp:T.place.size=n+1:=by have:=g1.len;simp at this;omega
  have hTd:T.dummies.size=0:=by rw[g1.dum];rfl
  have hSL:ES.size≤sizeLine:=by rw[hESz,sizeLine_eq];omega
  obtain⟨ho1,hsb1,hex1⟩:=ϱl ho hex hd ES T
  refine wpAny_bind (wpAny_storeSet_of ho hd ?_ hSL)
  have hnew:ElT knd s.heap k (tupleKeyHash knd k,Value.ref b):=⟨b,rfl,hk,rfl⟩
  have elems:∀(L:List (Int×Value)) (h':Heap),L.Perm ((tupleKeyHash knd k,Value.ref b)::es.toList)→Heap.SameBut a s.heap h'→(∀ e∈L,∃k,ElT knd h' k e)∧∀k',(S k' || decide (k'=k))=true↔∃e∈L,ElT knd h' k' e:=fun L h' hp hs=>by
   have old:∀e∈es.toList,∃k',ElT knd s.heap k' e∧ElT knd h' k' e:=fun e he=>by
    obtain⟨k',z⟩:=hel e he
    exact⟨k',z,z.but ho hd hs⟩
   refine⟨fun e he=>?_,fun k'=>?_⟩
   ·rcases List.mem_cons.mp (hp.mem_iff.mp he) with rfl|he
    ·exact⟨k,hnew.but ho hd hs⟩
    ·obtain⟨k',_,z⟩:=old e he;exact⟨k',z⟩
   ·rw[Bool.or_eq_true,decide_eq_true_eq,hmem k']
    constructor
    ·rintro (⟨e,he,z⟩|rfl)
     ·exact⟨e,hp.mem_iff.mpr (List.mem_cons_of_mem _ he),z.but ho hd hs⟩
     ·exact⟨_,hp.mem_iff.mpr List.mem_cons_self,hnew.but ho hd hs⟩
    ·rintro⟨e,he,z⟩
     rcases List.mem_cons.mp (hp.mem_iff.mp he) with rfl|he
     ·exact .inr (z.inj (hnew.but ho hd hs))
     ·obtain⟨k'',z1,z2⟩:=old e he
      have:=z.inj z2
      subst this
      exact .inl ⟨e,he,z1⟩
  by_cases hfl:T.tooFull=true
  ·rw[hfl]
   simp only[Bool.not_false,Bool.and_self,if_true]
   have hgr:SetTable.grown (es.size+1)=4*(n+1):=by unfold SetTable.grown;rw[if_neg (by omega)];omega
   rw[hgr]
   refine wpAny_bind (ϵg ho1 rfl (by have:=g1.fits;simpa using this) (by omega) (by omega) fun es' t' hp hg hw hle=>?_)
   obtain⟨ho2,hsb2,hex2⟩:=ϱl ho1 hex1 rfl es' t'
   have hsb:Heap.SameBut a s.heap ((s.heap.update a (Obj.putSet ES T)).update a (Obj.putSet es' t')):=hsb1.trans hsb2
   obtain⟨x1,x2⟩:=elems es'.toList _ (hp.trans hESp) hsb
   have hz':es'.size=n+1:=by have:=hp.length_eq;simp at this;omega
   have hp':t'.place.size=n+1:=by have:=hg.len;simp at this;omega
   refine wpAny_pure (h _ hsb ⟨_,es',_,t',ho2,hex2,rfl,hg,x1,x2,?_,?_,?_⟩)
   ·simp only[Bool.false_eq_true,if_false];exact hz'
   ·rw[hp'];omega
   ·simp only[Bool.false_eq_true,if_false];omega
  ·rw[Bool.not_eq_true] at hfl
   rw[hfl]
   simp only[Bool.and_false,Bool.false_eq_true,if_false]
   obtain⟨x1,x2⟩:=elems ES.toList _ hESp hsb1
   have hnf:T.place.size*5 < T.mask*3:=by
    unfold SetTable.tooFull SetTable.fill at hfl
    rw[hTd] at hfl
    simp at hfl
    omega
   refine wpAny_pure (h _ hsb1 ⟨_,ES,_,T,ho1,hex1,rfl,g1,x1,x2,?_,hnf,?_⟩)
   ·simp only[Bool.false_eq_true,if_false];exact hESz
   ·simp only[Bool.false_eq_true,if_false];rw[hTm];omega
 ·-- where it would be met
  obtain⟨i,hi,ei⟩:=List.getElem_of_mem he
  have hi':i < es.size:=by simpa using hi
  have hpi:i < t.place.size:=by omega
  have hz:(t.place[i],e.1)∈t.place.toList.zip (es.toList.map (·.1)):=by
   refine List.mem_iff_getElem.mpr ⟨i,?_,?_⟩
   ·simp;omega
   ·simp[← ei]
  obtain⟨q,q1,q2⟩:=g.reach _ hz
  have eh:e.1=tupleKeyHash knd k:=let ⟨_,_,_,z⟩:=hke;z
  dsimp only at q1 q2
  rw[eh] at q1 q2
  have hmemq:pos t.mask (tupleKeyHash knd k) q∈t.place.toList:=by rw[q1];simp
  have hqN:q < N:=by
   rcases Nat.lt_trichotomy q N with z|z|z
   ·exact z
   ·subst z;exact absurd hmemq hN2
   ·exact absurd (q2 N z) hN2
  refine⟨q,i,e,Nat.zero_le _,hqN,?_,?_,hke⟩
  ·rw[q1];exact ϲH g.ris (Array.getElem?_eq_getElem hpi)
  ·rw[← ei];simp[hi']
end
end PySem
namespace PySem
abbrev ϕQ (led:Bool):Obj:={ cls:=.type "set",dict:=none,data:=.set #[] 0 (.fresh 0 0 led) }
section
variable {prog:Program}{w:World}{A:Around}{E:Value→Shared→Prop}{s:Shared}
set_option maxRecDepth 100000 in
set_option maxHeartbeats 3200000 in
theorem ϱo {x:Value}{Q:Value→Shared→Prop}
  (up:∀(led:Bool) (E':Value→Shared→Prop),wpAny (model prog w) A.in1.in1 (Builtin.Frozenset.updateFrom "set.__init__" s.heap.objs.size x) (fun _ s2=>Q (.ref s.heap.objs.size) s2) E' { s with heap:=s.heap.push (ϕQ led) }) :
  wpAny (model prog w) A (call (.type "set") [x]) Q E s:=by
 obtain⟨c0,tl0,hm0⟩:=F.called_set.mro
 have made0:=F.called_set.made
 have sub0:=F.called_set.sub
 refine wpAny_call (codeAny_of_tree ?_)
 show wpAny _ _ (callAny (.type "set") _) _ _ _
 refine wpAny_pure ⟨Code.quiet_builtin _ (by decide +kernel),codeAny_builtin F.entry_type_call ?_⟩
 rw[Around.under_plain (weight_type_call_type "set" [x] []) rfl]
 have n0:=F.called_set.notType
 have n1:=F.called_set.canCreate
 have ct0:=F.typeCall_set_1 x
 repeat (any_goals (first|assumption|wp_step))
 refine codeAny_mono (code_set_new_1 x (E:=E) (Q₁:=fun v s1=>∃led:Bool,v=.ref s.heap.objs.size∧s1={ s with heap:=s.heap.push (ϕQ led) }) fun led=>⟨led,rfl,rfl⟩) fun r0 s0 hr0=>?_
 cases r0 with
 |error e=>exact hr0
 |ok f0=>
  cases f0 with
  |ret v0=>
   obtain⟨led,rfl,rfl⟩:=hr0
   have hS0:(s.heap.push (ϕQ led)).get? s.heap.objs.size=some (ϕQ led):=Heap.get?_push_size _ rfl
   have hT0:Shared.TypeIs { s with heap:=s.heap.push (ϕQ led) } (.ref s.heap.objs.size) "set":=⟨_,hS0,rfl⟩
   have li0:=F.called_set.init.lookup
   have bi0:=F.called_set.init.bind (.ref s.heap.objs.size)
   repeat (any_goals (first|assumption|wp_step))
   refine codeAny_mono (codeAny_call_builtin (R:=wants (fun r s2=>r=.none∧Q (.ref s.heap.objs.size) s2) E) F.called_set.init.plain F.entry_set_init (check_set_init_1 hT0 ?_)) fun r1 s1 hr1=>?_
   ·unfold Builtin.«set.__init__» noKeywords
    have up0:=up led
    generalize Builtin.Frozenset.updateFrom=UF at up0⊢
    wp_walk
    refine wpAny_mono (up0 _) (fun _ s2 hq=>?_) fun _ _ e=>e
    first|exact wpAny_pure ⟨rfl,hq⟩|exact wpAny_pure (wpAny_pure ⟨rfl,hq⟩)|exact wpAny_bind (wpAny_pure (wpAny_pure ⟨rfl,hq⟩))
   ·cases r1 with
    |error e=>exact hr1
    |ok f1=>
     cases f1 with
     |ret r=>
      obtain⟨rfl,hq⟩:=hr1
      repeat (any_goals (first|assumption|wp_step))
     |_=>exact hr1.elim
  |_=>exact hr0.elim
end
end PySem
namespace PySem
section
variable {prog:Program}{w:World}{B:Around}{E:Value→Shared→Prop}{s:Shared}
theorem ϛJ {R:Result→Shared→Prop}{I:Addr}{fp wr:List Addr}{n:Nat}{P:Nat→Value→Prop}{St:Nat→Heap→Prop} (W:Walks prog w B.in1 I fp wr n P St) (S:Addr) (hSf:S∉fp) (Sx:Nat→Heap→Prop)
  (keep:∀i j h h',St j h→Sx i h→(∀ b o,b∉wr→h.get? b=some o→h'.get? b=some o)→Sx i h')
  (add:∀i v (s':Shared) (Q:Bool→Shared→Prop) (E':Value→Shared→Prop),i < n→P i v→Sx i s'.heap→(∀ h' tk c,Heap.SameBut S s'.heap h'→Sx (i+1) h'→Q c { s' with heap:=h',toks:=tk })→wpAny (model prog w) B.in1 (setAdd S v) Q E' s') :
  ∀(k i:Nat) (s:Shared),n-i=k→i≤n→St i s.heap→Sx i s.heap →
   (∀ h' tk,(∀ b o,b∉wr→b≠S→s.heap.get? b=some o→h'.get? b=some o)→Sx n h'→R (.ok (.ret .none)) { s with heap:=h',toks:=tk }) →
   codeAny (model prog w) B (.builtin "set.update.loop" ⟨[.ref S,.ref I],[]⟩) R s:=by
 intro k
 induction k with
 |zero=>
  intro i s hk hi st sx hR
  obtain rfl:i=n:=by omega
  refine codeAny_builtin PyProof.Rows.F.entry_set_update_loop ?_
  rw[Around.under_plainId PyProof.Rows.F.plain_set_update_loop _]
  show wpAny _ B.in1 (pyNext (.ref I) >>= _) _ _ s
  refine wpAny_bind (W.done s _ _ st fun h' tk hm=>?_)
  show wpAny _ B.in1 (ret Value.none) _ _ _
  exact wpAny_pure (hR h' tk (fun b o hb _ e=>hm b o hb e) (keep _ _ _ _ st sx hm))
 |succ k ih=>
  intro i s hk hi st sx hR
  have hlt:i < n:=by omega
  refine codeAny_builtin PyProof.Rows.F.entry_set_update_loop ?_
  rw[Around.under_plainId PyProof.Rows.F.plain_set_update_loop _]
  show wpAny _ B.in1 (pyNext (.ref I) >>= _) _ _ s
  refine wpAny_bind (W.item i s _ _ hlt st fun v h1 t1 hP st1 hm=>?_)
  have sx1:Sx i h1:=keep _ _ _ _ st sx hm
  show wpAny _ B.in1 (holding [v] (setAdd S v) >>= _) _ _ _
  refine wpAny_bind (wpAny_holding (add i v _ _ _ hlt hP sx1 fun h2 t2 c hsb sx2=>?_))
  refine wpAny_pure ⟨plainId_quiet PyProof.Rows.F.plain_set_update_loop _,ih (i+1) _ (by omega) hlt (W.frame _ _ _ st1 fun b hb o e=>?_) sx2 fun h3 t3 hk3 sx3=>?_⟩
  ·show h2.get? b=some o
   rw[hsb.2 b (fun z:b=S=>hSf (by rw[← z];exact hb))];exact e
  ·refine hR h3 t3 (fun b o hb hS e=>hk3 b o hb hS ?_) sx3
   show h2.get? b=some o
   rw[hsb.2 b hS];exact hm b o hb e
set_option maxRecDepth 100000 in
set_option maxHeartbeats 3200000 in
theorem ϕX {id:String}{a l:Addr}{items:Array Value}{Q:Unit→Shared→Prop} (hh:B.handled=none) (hl:s.heap.IsList l items) (hal:a≠l) (has:a < s.heap.objs.size) (Sx:Nat→Heap→Prop) (start:Sx 0 s.heap)
  (keep:∀i (h h':Heap),(∃ o,h.get? s.heap.objs.size=some o∧o.cls=.type "list_iterator")→Sx i h→(∀ b o,b≠s.heap.objs.size→h.get? b=some o→h'.get? b=some o)→Sx i h')
  (keep0:∀(h':Heap),(∀ b o,s.heap.get? b=some o→h'.get? b=some o)→Sx 0 h')
  (add:∀i v (s':Shared) (Q:Bool→Shared→Prop) (E':Value→Shared→Prop),items[i]?=some v→Sx i s'.heap→(∀ h' tk c,Heap.SameBut a s'.heap h'→Sx (i+1) h'→Q c { s' with heap:=h',toks:=tk })→wpAny (model prog w) B.in1 (setAdd a v) Q E' s')
  (fin:∀h' tk,Sx items.size h'→(∀ b o,b < s.heap.objs.size→b≠a→s.heap.get? b=some o→h'.get? b=some o)→Q () { s with heap:=h',toks:=tk }) :
  wpAny (model prog w) B (Builtin.Frozenset.updateFrom id a (.ref l)) Q E s:=by
 obtain⟨ol,hol,hcl,nl,hdl⟩:=hl
 obtain⟨oc,od,odt,os⟩:=ol
 simp only at hcl hdl
 subst hcl;subst hdl
 have sl0:=F.sub_list_set
 have sl1:=F.sub_list_frozenset
 have ne0:(Value.type "list" == Value.type "dict")=false:=by decide
 have hl1:s.heap.IsList l items:=⟨_,hol,rfl,nl,rfl⟩
 unfold Builtin.Frozenset.updateFrom
 generalize hPI:pyIter=PI
 wp_walk
 subst hPI
 refine wpAny_pyIter_list hl1 ?_
 refine wpAny_bind (wpAny_runValue ?_)
 have hlt:l < s.heap.objs.size:=Heap.lt_size hol
 refine ϛJ (Walks.list (by simp[hh]) _ l (Nat.ne_of_lt hlt) items) a ?_ Sx ?_ (fun i v s' Q E' _ hv sx hq=>add i v s' Q E' hv sx hq) (items.size-0) 0 _ rfl (Nat.zero_le _) ?_ ?_ ?_
 ·simp only[List.mem_cons,List.not_mem_nil,or_false,not_or]
  exact⟨Nat.ne_of_lt has,hal⟩
 ·intro i j h h' st sx hk
  obtain⟨⟨o,e,c,_⟩,_⟩:=st
  exact keep i h h' ⟨o,e,c⟩ sx fun b o hb e=>hk b o (by simpa using hb) e
 ·exact⟨⟨_,Heap.get?_push_size _ rfl,rfl,rfl⟩,hl1.push _⟩
 ·exact keep0 _ fun b o e=>Heap.get?_push_of_some _ e
 ·intro h' tk hk sx
  refine wpAny_pure ?_
  refine fin h' tk sx fun b o hb hba e=>hk b o ?_ hba (Heap.get?_push_of_some _ e)
  simp only[List.mem_cons,List.not_mem_nil,or_false]
  exact Nat.ne_of_lt hb
end
end PySem
namespace L3
open PySem PySem.Spec PyProof.Rows L2
def ϑv {κ:Type} [DecidableEq κ]:List κ→Nat
 |[]=>0
 |x::xs=>if x∈xs then ϑv xs else ϑv xs+1
theorem ϕv {κ:Type} [DecidableEq κ]:∀xs:List κ,ϑv xs≤xs.length
 |[]=>Nat.le_refl _
 |x::xs=>by
  have:=ϕv xs
  rw[ϑv]
  split<;>simp only[List.length_cons]<;>omega
theorem ϱ7 {κ:Type} [DecidableEq κ]:∀xs:List κ,ϑv xs=xs.length↔xs.Nodup
 |[]=>by simp[ϑv]
 |x::xs=>by
  have:=ϕv xs
  rw[List.nodup_cons,← ϱ7 xs,ϑv]
  split
  ·rename_i h
   simp only[List.length_cons,h,not_true,false_and,iff_false];omega
  ·rename_i h
   simp only[List.length_cons,h,not_false_eq_true,true_and];omega
def memD {κ:Type} [DecidableEq κ] (x:κ) (xs:List κ):Bool:=decide (x∈xs)
theorem ϵG {κ:Type} [DecidableEq κ] (x:κ):memD x []=false:=by simp[memD]
theorem ϲW {κ:Type} [DecidableEq κ] (x y:κ) (xs:List κ):memD x (y::xs)=(memD x xs || decide (x=y)):=by
 unfold memD
 by_cases c:x=y<;>simp[c]
theorem ϵv {κ:Type} [DecidableEq κ] (x:κ) (xs:List κ):ϑv (x::xs)=if memD x xs then ϑv xs else ϑv xs+1:=by
 rw[ϑv];simp only[memD,decide_eq_true_eq]
theorem ϡ7 {κ:Type}{ks:List κ}{i:Nat}{k:κ} (h:ks[i]?=some k):(ks.take (i+1)).reverse=k::(ks.take i).reverse:=by
 obtain⟨hi,e⟩:=List.getElem?_eq_some_iff.mp h
 rw[List.take_succ_eq_append_getElem hi,List.reverse_append,e];rfl
def ϡK (a:Addr) (n:Nat):Heap→Prop:=fun h=>∃o es ep t,h.get? a=some o∧o.ExactSet∧o.data=.set es ep t∧t.fits es.size=true∧es.size=n
abbrev SetN (a:Addr) (n:Nat):HO:=.ext (ϡK a n)
theorem ϲB {P:Program}{w:World}{H:Hp}{h:Heap}{a:Addr}{n:Nat} (x:ϡK a n h):ObjOk P w H h a (SetN a n):=by
 refine⟨x,let ⟨o,_,_,_,e,_⟩:=x;⟨o,e⟩,fun h1 h2 x1 k=>?_⟩
 obtain⟨o,es,ep,t,e,r⟩:=x1
 exact⟨o,es,ep,t,k o e,r⟩
section
variable {X:Cx}
def KeyV (K:PySem.W.Frag) (H:Hp) (k:List Key) (v:V):Prop:=∃b,v=.ref b∧SqT K H b (k.map kV)
theorem ϲs {k:Key}{u:Value} (r:RelV (kV k) u):ϲO k u=true:=by
 cases k with
 |inl i=>obtain⟨t,rfl⟩:=r;exact ϲY i t
 |inr x=>obtain⟨t,rfl⟩:=r;exact ϲ6 x t
theorem ϱV {P:Program}{w:World}:∀{k:List Key}{us:List Value},Vals (k.map kV) us→ItemsAre (ϖv P w) k us
 |[],_,r=>by cases r;exact .nil
 |x::xs,_,r=>by
  cases r with
  |cons r1 r2=>exact .cons (ϲs r1) (ϱV r2)
theorem ϝ6 {pins:List (Addr×Obj)}{σ:L2.St}{H:Hp}{s:Shared} (I:Inv X pins σ H s) {k:List Key}{b:Addr} (h:SqT X.K H b (k.map kV)):IsTupleKey (ϖv X.prog X.w) s.heap k b:=by
 obtain⟨its,r,⟨o,ho,hc,n,hd⟩,_⟩:=I.tuple h
 exact⟨o,its.toArray,n,ho,hc,hd,by simpa using ϱV r⟩
theorem ϟ2 {pins:List (Addr×Obj)}{σ:L2.St}{H:Hp}{s:Shared} (I:Inv X pins σ H s):∀{ks:List (List Key)}{ys:List V}{us:List Value},Paired (KeyV X.K H) ks ys→Vals ys us→∀(i:Nat) (v:Value),us[i]?=some v→∃k b,ks[i]?=some k∧v=Value.ref b∧IsTupleKey (ϖv X.prog X.w) s.heap k b
 |_,_,_,.nil,r,i,v,e=>by cases r;simp at e
 |k::ks,y::ys,_,.cons p ps,r,i,v,e=>by
  cases r with
  |cons r1 r2=>
   cases i with
   |zero=>
    simp at e;subst e
    obtain⟨b,rfl,q⟩:=p
    cases r1
    exact⟨k,b,rfl,rfl,ϝ6 I q⟩
   |succ i=>
    obtain⟨k',b,h1,h2,h3⟩:=ϟ2 I ps r2 i v (by simpa using e)
    exact⟨k',b,by simpa using h1,h2,h3⟩
theorem ϵp {P:Program}{w:World}{h:Heap} (led:Bool):(h.push (ϕQ led)).TupSet (ϖv P w) h.objs.size (fun _=>false) 0:=by
 refine⟨_,#[],0,_,Heap.get?_push_size _ rfl,⟨rfl,rfl,rfl⟩,rfl,⟨⟨3,Nat.le_refl _,rfl⟩,rfl,List.Pairwise.nil,(by intro j hj;cases hj),rfl,Nat.zero_le _,(by intro x hx;cases hx)⟩,(by intro e he;cases he),?_,rfl,(show 0*5 < 7*3 by decide),.inl (show 7 < 8 by decide)⟩
 intro k
 constructor
 ·intro h;cases h
 ·rintro⟨e,he,_⟩;cases he
theorem TupSet.keeps {P:Program}{w:World}{h h':Heap}{a:Addr}{S:List Key→Bool}{n:Nat} (x:h.TupSet (ϖv P w) a S n) {I:Addr} (hI:∃o,h.get? I=some o∧o.cls≠.type "tuple"∧o.cls≠.type "set") (k:∀b o,b≠I→h.get? b=some o→h'.get? b=some o) :
  h'.TupSet (ϖv P w) a S n:=by
 obtain⟨o,es,ep,t,ho,hex,hd,g,hel,hmem,hn,r⟩:=x
 obtain⟨oI,hI,c1,c2⟩:=hI
 have ha:a≠I:=by
  rintro rfl
  rw[ho] at hI;cases hI
  exact c2 hex.1
 have tk:∀k' b,IsTupleKey (ϖv P w) h k' b→IsTupleKey (ϖv P w) h' k' b:=fun k' b ⟨ob,its,m,e1,e2,e3⟩=>by
  refine⟨ob,its,m,k b ob ?_ e1,e2,e3⟩
  rintro rfl
  rw[e1] at hI;cases hI
  exact c1 e2
 have tkr:∀k' b,(∃ k'',IsTupleKey (ϖv P w) h k'' b)→IsTupleKey (ϖv P w) h' k' b→IsTupleKey (ϖv P w) h k' b:=fun k' b ⟨k'',z⟩ y=>by
  have:=(tk k'' b z).inj y
  subst this;exact z
 refine⟨o,es,ep,t,k a o ha ho,hex,hd,g,fun e he=>?_,fun k'=>?_,hn,r⟩
 ·obtain⟨k',b,e1,e2,e3⟩:=hel e he
  exact⟨k',b,e1,tk _ _ e2,e3⟩
 ·rw[hmem k']
  constructor
  ·rintro⟨e,he,b,e1,e2,e3⟩
   exact⟨e,he,b,e1,tk _ _ e2,e3⟩
  ·rintro⟨e,he,b,e1,e2,e3⟩
   obtain⟨k'',b'',f1,f2,f3⟩:=hel e he
   rw[e1] at f1;cases f1
   exact⟨e,he,b,e1,tkr _ _ ⟨k'',f2⟩ e2,e3⟩
def rSetT (X:Cx):List V→Hp→VK→Prop:=fun xs H Q=>∃p ys ks,xs=[.ref p]∧SqL X.K H p ys∧Paired (KeyV X.K H) ks ys∧ks.length≤999∧∀q,H q=none→Q (.ref q) (upd H q (SetN q (ϑv ks.reverse)))
theorem ϝS {k0:Nat} (hr:Room k0 X.A) (hc:X.calm=true):CallR X (.type "set") (rSetT X):=by
 intro pins s σ H xs us Q I r h
 obtain⟨p,ys,ks,rfl,hq,hks,hz,q⟩:=h
 obtain⟨u,rfl,rx⟩:=ϱs r
 cases rx
 obtain⟨its,rv,pl,_⟩:=I.list hq
 have hlen:ks.length=its.length:=by rw[hks.length,rv.length]
 have hkeys:=ϟ2 I hks rv
 have hlt:p < s.heap.objs.size:=by obtain⟨_,_,e,_⟩:=pl;exact Heap.lt_size e
 refine ϱo fun led E'=>?_
 refine ϕX (s:={ s with heap:=s.heap.push (ϕQ led) }) (items:=its.toArray) (by simp[I.ok.hd hc]) (pl.isList.push _) (Nat.ne_of_gt hlt) (by rw[Heap.size_push];exact Nat.lt_succ_self _)
  (fun i h=>h.TupSet (ϖv X.prog X.w) s.heap.objs.size (fun k:List Key=>memD k (ks.take i).reverse) (ϑv (ks.take i).reverse)∧∀(j:Nat) (v:Value) (k:List Key) (b:Addr),its[j]?=some v→v=Value.ref b→ks[j]?=some k→IsTupleKey (ϖv X.prog X.w) h k b) ?_ ?_ ?_ ?_ ?_
 ·refine⟨?_,fun j v k b e1 e2 e3=>?_⟩
  ·have:=ϵp (P:=X.prog) (w:=X.w) (h:=s.heap) led
   simpa [ϵG,ϑv] using this
  ·subst e2
   obtain⟨k',b',h1,h2,h3⟩:=hkeys j _ e1
   rw[e3] at h1;cases h1;cases h2
   obtain⟨ob,it,m,e1,r⟩:=h3
   exact⟨ob,it,m,Heap.get?_push_of_some _ e1,r⟩
 ·rintro i h h' ⟨oI,hI,cI⟩ ⟨x1,x2⟩ k
  have nt:oI.cls≠.type "tuple":=by rw[cI];decide
  refine⟨TupSet.keeps x1 ⟨oI,hI,nt,by rw[cI];decide⟩ k,fun j v k' b e1 e2 e3=>?_⟩
  obtain⟨ob,it,m,f1,f2,f3⟩:=x2 j v k' b e1 e2 e3
  refine⟨ob,it,m,k b ob ?_ f1,f2,f3⟩
  rintro rfl
  rw[f1] at hI;cases hI
  exact nt f2
 ·intro h' k
  have x:=ϵp (P:=X.prog) (w:=X.w) (h:=s.heap) led
  refine⟨?_,fun j v k' b e1 e2 e3=>?_⟩
  ·obtain⟨o,es,ep,t,ho,hex,hd,g,hel,hmem,hn,r⟩:=x
   have hes:es=#[]:=Array.eq_empty_of_size_eq_zero hn
   subst hes
   refine⟨o,#[],ep,t,k _ _ ho,hex,hd,g,(by intro e he;cases he),fun k'=>?_,rfl,r⟩
   simp[ϵG]
  ·subst e2
   obtain⟨k'',b',h1,h2,h3⟩:=hkeys j _ e1
   rw[e3] at h1;cases h1;cases h2
   obtain⟨ob,it,m,e1,r⟩:=h3
   exact⟨ob,it,m,k _ _ (Heap.get?_push_of_some _ e1),r⟩
 ·rintro i v s' Q' E'' hv ⟨x1,x2⟩ hq'
  have hv':its[i]?=some v:=by simpa using hv
  obtain⟨k,b,h1,h2,_⟩:=hkeys i v hv'
  subst h2
  have hkb:=x2 i _ k b hv' rfl h1
  have hi:i < ks.length:=(List.getElem?_eq_some_iff.mp h1).1
  have hu:X.A.in1.in1.in1.units < cLine:=by have:=hr.un;show X.A.units+1+1+1 < cLine;omega
  unfold setAdd
  refine wpAny_holding (wpAny_bind (wpAny_pyHash_tuple hu hkb ?_))
  have hroom:ϑv (ks.take i).reverse < 1000:=by
   have:=ϕv (ks.take i).reverse
   rw[List.length_reverse,List.length_take] at this
   omega
  refine ϱr (s:={ s' with toks:=s'.toks+(k.length+1) }) hu x1 hkb hroom fun h' hsb hS=>?_
  refine hq' h' _ _ hsb ⟨?_,fun j v k' b' e1 e2 e3=>?_⟩
  ·rw[ϡ7 h1]
   have e1:(fun k'=>memD k' (k::(ks.take i).reverse))=fun k'=>memD k' (ks.take i).reverse || decide (k'=k):=funext fun k'=>ϲW _ _ _
   rw[e1,ϵv]
   exact hS
  ·obtain⟨o,es,ep,t,ho,_,hd,_⟩:=x1
   exact(x2 j v k' b' e1 e2 e3).but ho hd hsb
 ·rintro h' tk ⟨x1,_⟩ hk
  have hsz:its.toArray.size=ks.length:=by rw[List.size_toArray,hlen]
  rw[hsz,List.take_length] at x1
  have x3:ϡK s.heap.objs.size (ϑv ks.reverse) h':=by
   obtain⟨o,es,ep,t,ho,hex,hd,g,_,_,hn,_⟩:=x1
   exact⟨o,es,ep,t,ho,hex,hd,by have:=g.fits;simpa using this,hn⟩
  refine⟨.ref s.heap.objs.size,_,I.laid (t':=tk) (fun b o e=>?_) (Nat.le_refl _) (ϲB x3),rfl,q _ (I.hok.fresh (Nat.le_refl _))⟩
  have hb:=Heap.lt_size e
  refine hk b o ?_ (Nat.ne_of_lt hb) (Heap.get?_push_of_some _ e)
  rw[Heap.size_push];exact Nat.lt_succ_of_lt hb
theorem call_len_set:CallR X (.builtin "len") (fun xs H Q=>∃a n,xs=[.ref a]∧H a=some (SetN a n)∧n≤100000∧Q (.int n) H):=by
 intro pins s σ H xs us Q I r h
 obtain⟨a,n,rfl,ha,hn,q⟩:=h
 obtain⟨u,rfl,rx⟩:=ϱs r
 cases rx
 obtain⟨⟨o,es,ep,t,ho,hex,hd,hf,e⟩,_⟩:=(show ObjOk X.prog X.w H s.heap a (SetN a n) from I.hok a _ ha)
 exact PySem.call_len_set ho hex hd hf (by omega) ⟨.int n,H,I.tok _,⟨_,by rw[e]⟩,q⟩
end
end L3
namespace L3
open PySem PySem.Spec PyProof.Rows L2
section
variable {X:Cx}
theorem keysV:∀{ks:List Key}{us:List Value},Vals (ks.map kV) us→∀(i:Nat) (v:Value),us[i]?=some v→∃k,ks[i]?=some k∧ϲO k v=true∧v.scannable=true
 |[],_,r,i,v,e=>by cases r;simp at e
 |k::ks,_,r,i,v,e=>by
  cases r with
  |cons r1 r2=>
   cases i with
   |zero=>
    simp at e;subst e
    refine⟨k,rfl,ϲs r1,?_⟩
    cases k with
    |inl i=>obtain⟨t,rfl⟩:=r1;rfl
    |inr x=>obtain⟨t,rfl⟩:=r1;rfl
   |succ i=>
    obtain⟨k',h1,h2⟩:=keysV r2 i v (by simpa using e)
    exact⟨k',by simpa using h1,h2⟩
def rSetK (X:Cx):List V→Hp→VK→Prop:=fun xs H Q=>∃(p:Addr) (ks:List Key),xs=[.ref p]∧SqL X.K H p (ks.map kV)∧ks.length≤4000∧∀q,H q=none→Q (.ref q) (upd H q (SetN q (ϑv ks.reverse)))
theorem ϟV (hc:X.calm=true):CallR X (.type "set") (rSetK X):=by
 intro pins s σ H xs us Q I r h
 obtain⟨p,ks,rfl,hq,hz,q⟩:=h
 obtain⟨u,rfl,rx⟩:=ϱs r
 cases rx
 obtain⟨its,rv,pl,_⟩:=I.list hq
 have hlen:ks.length=its.length:=by rw[← rv.length,List.length_map]
 have hkeys:=keysV rv
 have hlt:p < s.heap.objs.size:=by obtain⟨_,_,e,_⟩:=pl;exact Heap.lt_size e
 refine ϱo fun led E'=>?_
 have st0:(s.heap.push (ϕQ led)).SetOf (ϖv X.prog X.w) s.heap.objs.size (fun k=>memD k (ks.take 0).reverse) (ϑv (ks.take 0).reverse):=by
  refine⟨_,#[],0,_,Heap.get?_push_size _ rfl,⟨rfl,rfl,rfl⟩,rfl,(by intro e he;cases he),fun k=>?_,(by decide),rfl,rfl⟩
  simp[ϵG]
 refine ϕX (s:={ s with heap:=s.heap.push (ϕQ led) }) (items:=its.toArray) (by simp[I.ok.hd hc]) (pl.isList.push _) (Nat.ne_of_gt hlt) (by rw[Heap.size_push];exact Nat.lt_succ_self _)
  (fun i h=>h.SetOf (ϖv X.prog X.w) s.heap.objs.size (fun k=>memD k (ks.take i).reverse) (ϑv (ks.take i).reverse)) st0 ?_ ?_ ?_ ?_
 ·rintro i h h' ⟨oI,hI,cI⟩ ⟨o,es,ep,t,ho,hex,r⟩ k
  refine⟨o,es,ep,t,k _ o ?_ ho,hex,r⟩
  intro z
  rw[z,hI] at ho;cases ho
  exact absurd (cI.symm.trans hex.1) (by decide)
 ·intro h' k
  obtain⟨o,es,ep,t,ho,r⟩:=st0
  exact⟨o,es,ep,t,k _ _ ho,r⟩
 ·rintro i v s' Q' E'' hv x1 hq'
  obtain⟨k,h1,h2,h3⟩:=hkeys i v (by simpa using hv)
  have hi:i < ks.length:=(List.getElem?_eq_some_iff.mp h1).1
  unfold setAdd
  refine wpAny_holding (wpAny_bind ((ϖv X.prog X.w).pyHash (k:=k) h2 ?_))
  have hroom:ϑv (ks.take i).reverse+1 < scanBound:=by
   have:=ϕv (ks.take i).reverse
   rw[List.length_reverse,List.length_take] at this
   unfold scanBound;omega
  refine wpAny_setAddHashed_of (knd:=ϖv X.prog X.w) (s:={ s' with toks:=s'.toks+1 }) h2 h3 x1 hroom fun h' hsb hS=>?_
  refine hq' h' _ _ hsb ?_
  show h'.SetOf (ϖv X.prog X.w) s.heap.objs.size (fun k=>memD k (ks.take (i+1)).reverse) (ϑv (ks.take (i+1)).reverse)
  rw[ϡ7 h1,ϵv,show(fun k'=>memD k' (k::(ks.take i).reverse))=fun k'=>memD k' (ks.take i).reverse || decide (k'=k) from funext fun k'=>ϲW _ _ _]
  exact hS
 ·intro h' tk x1 hk
  have hsz:its.toArray.size=ks.length:=by rw[List.size_toArray,hlen]
  rw[hsz,List.take_length] at x1
  have x3:ϡK s.heap.objs.size (ϑv ks.reverse) h':=by
   obtain⟨o,es,ep,t,ho,hex,hd,_,_,_,hf,hn⟩:=x1
   exact⟨o,es,ep,t,ho,hex,hd,hf,hn⟩
  refine⟨.ref s.heap.objs.size,_,I.laid (t':=tk) (fun b o e=>?_) (Nat.le_refl _) (ϲB x3),rfl,q _ (I.hok.fresh (Nat.le_refl _))⟩
  have hb:=Heap.lt_size e
  refine hk b o ?_ (Nat.ne_of_lt hb) (Heap.get?_push_of_some _ e)
  rw[Heap.size_push];exact Nat.lt_succ_of_lt hb
theorem ϵ0 {k0:Nat} (hr:Room k0 X.A) (hc:X.calm=true):CallR X (.type "set") (fun xs H Q=>rSetT X xs H Q∨rSetK X xs H Q):=CallR.or (ϝS hr hc) (ϟV hc)
end
theorem ϟW:bootBuiltins "set"=some (.type "set"):=by decide +kernel
end L3
namespace L3
open PySem PySem.Spec PyProof.Rows L2
abbrev Mk:=Int×Str
abbrev Stp:=Int×Str×Str×Int
def Grow (H H':Hp):Prop:=∀b o,H b=some o→(∀ xs,o≠.lst xs)→H' b=some o
theorem Same.grow {H H':Hp} (g:Same H H'):Grow H H':=fun b o h _=>g b o h
theorem ϛH {H:Hp}{p:Addr}{xs:List V} (h:H p=some (.lst xs)) (o:HO):Grow H (upd H p o):=fun b u q n=>by
 rw[ϖp]
 ·exact q
 ·rintro rfl;rw[h] at q;cases q;exact n xs rfl
theorem ϕb {H:Hp}{p:Addr} (h:H p=none) (o:HO):Grow H (upd H p o):=Same.grow (ϖg h o)
theorem Grow.seqT {K:PySem.W.Frag}{H H':Hp}{a:Addr}{xs:List V} (e:Grow H H') (h:SqT K H a xs):SqT K H' a xs:=by
 rcases h with (h|⟨o,h⟩)|h
 ·exact .inl (.inl (e _ _ h (by intro _ q;cases q)))
 ·exact .inl (.inr ⟨o,e _ _ h (by intro _ q;cases q)⟩)
 ·exact .inr h
def MkV (K:PySem.W.Frag) (H:Hp) (m:Mk) (v:V):Prop:=∃b,v=.ref b∧SqT K H b [.int m.1,.str m.2]
def StV (K:PySem.W.Frag) (H:Hp) (t:Stp) (v:V):Prop:=∃b,v=.ref b∧SqT K H b [.int t.1,.str t.2.1,.str t.2.2.1,.int t.2.2.2]
theorem MkV.mono {K:PySem.W.Frag}{H H':Hp}{m:Mk}{v:V} (g:Grow H H'):MkV K H m v→MkV K H' m v:=fun⟨b,e,h⟩=>⟨b,e,g.seqT h⟩
theorem StV.mono {K:PySem.W.Frag}{H H':Hp}{m:Stp}{v:V} (g:Grow H H'):StV K H m v→StV K H' m v:=fun⟨b,e,h⟩=>⟨b,e,g.seqT h⟩
theorem ϖb {α β:Type}{F G:α→β→Prop} (h:∀a b,F a b→G a b):∀{xs:List α}{ys:List β},Paired F xs ys→Paired G xs ys
 |_,_,.nil=>.nil
 |_,_,.cons p q=>.cons (h _ _ p) (ϖb h q)
theorem ϖo {α β:Type}{F:α→β→Prop}:∀{xs xs':List α}{ys ys':List β},Paired F xs ys→Paired F xs' ys'→Paired F (xs++xs') (ys++ys')
 |_,_,_,_,.nil,q=>q
 |_,_,_,_,.cons p r,q=>.cons p (ϖo r q)
theorem ϖr {α β:Type}{F:α→β→Prop}:∀{xs:List α}{ys:List β}{i:Nat}{y:β},Paired F xs ys→ys[i]?=some y→∃x,xs[i]?=some x∧F x y
 |_,_,_,_,.nil,e=>by simp at e
 |_,_,0,_,.cons p _,e=>by simp at e;subst e;exact⟨_,rfl,p⟩
 |_,_,i+1,y,.cons _ q,e=>by
  obtain⟨x,h1,h2⟩:=ϖr (i:=i) (y:=y) q (by simpa using e)
  exact⟨x,by simpa using h1,h2⟩
structure Scr where
 signs:Str
 rooms:Int
 begins:List Mk
 steps:List Stp
 ends:List Mk
def ScV (K:PySem.W.Frag) (H:Hp) (s:Scr) (v:V) (pb ps pe:Addr):Prop:=∃a xb xs xe,v=.ref a∧SqT K H a [.str s.signs,.int s.rooms,.ref pb,.ref ps,.ref pe]∧SqL K H pb xb∧SqL K H ps xs∧SqL K H pe xe ∧
 Paired (MkV K H) s.begins xb∧Paired (StV K H) s.steps xs∧Paired (MkV K H) s.ends xe
theorem ScV.mono {K:PySem.W.Frag}{H H':Hp}{s:Scr}{v:V}{pb ps pe:Addr} (g:Same H H'):ScV K H s v pb ps pe→ScV K H' s v pb ps pe
 |⟨a,xb,xs,xe,e,h1,h2,h3,h4,h5,h6,h7⟩=>⟨a,xb,xs,xe,e,Same.seqT g h1,g.seq h2,g.seq h3,g.seq h4,ϖb (fun _ _=>MkV.mono (Same.grow g)) h5,ϖb (fun _ _=>StV.mono (Same.grow g)) h6,ϖb (fun _ _=>MkV.mono (Same.grow g)) h7⟩
def dMk (m:Mk):D:=.tup [.int m.1,.str m.2]
def dSt (t:Stp):D:=.tup [.int t.1,.str t.2.1,.str t.2.2.1,.int t.2.2.2]
def dScr (s:Scr):D:=.tup [.str s.signs,.int s.rooms,.lst (s.begins.map dMk),.lst (s.steps.map dSt),.lst (s.ends.map dMk)]
theorem ϰ9 {K:PySem.W.Frag}{H:Hp} (i:Int):Rep K H (.int i) (.int i):=by unfold Rep;rfl
theorem ϱx {K:PySem.W.Frag}{H:Hp} (x:Str):Rep K H (.str x) (.str x):=by unfold Rep;rfl
theorem rep_non {K:PySem.W.Frag}{H:Hp}:Rep K H .non .non:=by unfold Rep;rfl
theorem ϲd {K:PySem.W.Frag}{H:Hp}{a:Addr}{xs:List V}{ds:List D} (h:SqT K H a xs) (r:Reps K H ds xs):Rep K H (.tup ds) (.ref a):=by unfold Rep;exact⟨a,xs,rfl,h,r⟩
theorem ϖZ {K:PySem.W.Frag}{H:Hp}{a:Addr}{xs:List V}{ds:List D} (h:SqL K H a xs) (r:Reps K H ds xs):Rep K H (.lst ds) (.ref a):=by unfold Rep;exact⟨a,xs,rfl,h,r⟩
theorem MkV.rep {K:PySem.W.Frag}{H:Hp}{m:Mk}{v:V}:MkV K H m v→Rep K H (dMk m) v
 |⟨_,e,h⟩=>by subst e;exact ϲd h (.cons (ϰ9 _) (.cons (ϱx _) .nil))
theorem StV.rep {K:PySem.W.Frag}{H:Hp}{m:Stp}{v:V}:StV K H m v→Rep K H (dSt m) v
 |⟨_,e,h⟩=>by subst e;exact ϲd h (.cons (ϰ9 _) (.cons (ϱx _) (.cons (ϱx _) (.cons (ϰ9 _) .nil))))
theorem ϰS {K:PySem.W.Frag}{H:Hp}{α:Type}{F:α→V→Prop}{f:α→D} (h:∀a v,F a v→Rep K H (f a) v):∀{xs:List α}{vs:List V},Paired F xs vs→Reps K H (xs.map f) vs
 |_,_,.nil=>.nil
 |_,_,.cons p q=>.cons (h _ _ p) (ϰS h q)
theorem ScV.rep {K:PySem.W.Frag}{H:Hp}{s:Scr}{v:V}{pb ps pe:Addr}:ScV K H s v pb ps pe→Rep K H (dScr s) v
 |⟨a,xb,xs,xe,e,h1,h2,h3,h4,h5,h6,h7⟩=>by
  subst e
  exact ϲd h1 (.cons (ϱx _) (.cons (ϰ9 _) (.cons (ϖZ h2 (ϰS (f:=dMk) (F:=MkV K H) (fun _ _ h=>MkV.rep h) h5)) (.cons (ϖZ h3 (ϰS (f:=dSt) (F:=StV K H) (fun _ _ h=>StV.rep h) h6)) (.cons (ϖZ h4 (ϰS (f:=dMk) (F:=MkV K H) (fun _ _ h=>MkV.rep h) h7)) .nil)))))
theorem ϑz {α:Type} (f:α→D) (n:Nat) (h:∀a,deep (f a)≤n):∀xs:List α,ϰs (xs.map f)≤n
 |[]=>by rw[List.map_nil,ϰs];exact Nat.zero_le _
 |x::xs=>by
  have h1:=h x
  have h2:=ϑz f n h xs
  rw[List.map_cons,ϰs];omega
theorem ϰf (m:Mk):deep (dMk m)≤1:=by unfold dMk;simp[deep,ϰs]
theorem ϵE (m:Stp):deep (dSt m)≤1:=by unfold dSt;simp[deep,ϰs]
theorem ϱ_ (s:Scr):deep (dScr s)≤3:=by
 have h1:=ϑz dMk 1 ϰf s.begins
 have h2:=ϑz dSt 1 ϵE s.steps
 have h3:=ϑz dMk 1 ϰf s.ends
 unfold dScr
 simp only[deep,ϰs]
 omega
section
variable {X:Cx}
theorem ϖw {x:Str}{i:Int}{pos:Pos} (hg:Gl X x) (hm:∃t,X.mg x=some (.int i t)) (hd:(x == ("__debug__":Str))=false:=by decide):PE X (.Name x pos) (tC (.int i)):=by
 obtain⟨t,hm⟩:=hm
 exact pe_glob hg hm ⟨t,rfl⟩ hd
end
theorem kIx {X:Cx}{K:PySem.W.Frag} (r:PySem.W.Frag→R2) (h:IxR X (r X.K)) (e:X.K=K:=by rfl):IxR X (r K):=e▸h
theorem kOp {X:Cx}{K:PySem.W.Frag}{f:Value→Value→Sem Value} (r:PySem.W.Frag→R2) (h:OpR X f (r X.K)) (e:X.K=K:=by rfl):OpR X f (r K):=e▸h
def rLenS (K:PySem.W.Frag):List V→Hp→VK→Prop:=fun xs H Q=>∃p ys,xs=[.ref p]∧(SqL K H p ys∨SqT K H p ys)∧Q (.int ys.length) H
theorem kLen {X:Cx}{K:PySem.W.Frag} (e:X.K=K:=by rfl):CallR X (.builtin "len") (rLenS K):=e▸ϲK
end L3
namespace L3
open PySem PySem.Spec PyProof.Rows L2
theorem ObjOk.there {P:Program}{w:World}{H:Hp}{h:Heap}:∀{a:Addr}{o:HO},ObjOk P w H h a o→∃ob,h.get? a=some ob
 |_,.lst _,x=>let ⟨_,_,_,_,e⟩:=x;⟨_,e⟩
 |_,.tup _,x=>let ⟨_,_,_,o,e,_⟩:=x;⟨o,e⟩
 |_,.dK _,x=>let ⟨_,_,_,_,o,_,_,e,_⟩:=x;⟨o,e⟩
 |_,.dT _,x=>let ⟨_,_,_,_,o,_,_,e,_⟩:=x;⟨o,e⟩
 |_,.set _ _,x=>let ⟨o,_,_,_,e,_⟩:=x;⟨o,e⟩
 |_,.ins _ _ _,x=>let ⟨_,_,_,e,_⟩:=x;⟨_,e⟩
 |_,.own _,x=>x
 |_,.xd _,x=>let ⟨_,⟨o,_,_,e,_⟩,_⟩:=x;⟨o,e⟩
 |_,.met _ _,x=>⟨_,x⟩
 |_,.rng _ _,x=>let ⟨_,_,_,e⟩:=x;⟨_,e⟩
 |_,.frz o _,x=>⟨o,x.1⟩
 |_,.tbl _,x=>⟨_,x⟩
 |_,.ext _,x=>x.2.1
structure Fly (P:Program) (w:World) (st:List Env) (H:Hp) (s:Shared) (x C:Addr) (H':Hp) (s':Shared) (B:Heap):Prop where
 os:s'.os=s.os
 bare:AllBare s'.gens
 un:Un (frs st) [] H H' s.heap s'.heap
 hok:HOk P w H' s'.heap
 fl:∃t,Heap.FlyingW B st x (.ref C) (.ref t) s'.heap
 new:s.heap.get? x=none
 xf:H' x=none
 tr:∀b o,H' b≠none→s'.heap.get? b=some o→B.get? b=some o
 ol:∀b o,s.heap.get? b=some o→H b=none→b∉frs st→B.get? b=some o
 th:∀b o,s.heap.get? b=some o→b∉frs st→∃o',B.get? b=some o'
 ff:∀b∈frs st,H' b=none
def CX1 (P:Program) (w:World):CXT:=fun st H s E e s'=>∃x C H' B,e=.ref x∧Fly P w st H s x C H' s' B∧E (.ref C) none H'
section
variable {P:Program}{w:World}{st:List Env}{H H':Hp}{s s':Shared}{x C:Addr}{B:Heap}
theorem Fly.turn (F:Fly P w st H s x C H' s' B) {h2:Heap} (k:B.StaysIn h2) (u:s'.heap.UpToSlots h2):Un (frs st) [] H H' s.heap h2∧HOk P w H' h2:=by
 have slot:∀b∈frs st,∀o,s'.heap.get? b=some o→∃sl,h2.get? b=some { o with slots:=sl }:=fun b hb o q=>by
  obtain⟨t,fl⟩:=F.fl
  obtain⟨_,o',e,d⟩:=fl.2.2.1.mem hb
  rw[q] at e;cases e
  exact u b o q d
 refine⟨⟨fun b o q n hb _=>k b o (F.ol b o q n hb),fun b o q n hb hx=>?_,F.un.free,fun b o q hx=>?_,F.un.tups,F.un.frzs,F.un.tbls⟩,fun a o e=>?_⟩
 ·obtain⟨sl,e⟩:=F.un.slot b o q n hb hx
  obtain⟨sl',e'⟩:=slot b hb _ e
  exact⟨sl',e'⟩
 ·by_cases hb:b∈frs st
  ·obtain⟨o',e⟩:=F.un.there b o q hx
   obtain⟨sl,e'⟩:=slot b hb _ e
   exact⟨_,e'⟩
  ·obtain⟨o',e⟩:=F.th b o q hb
   exact⟨o',k b o' e⟩
 ·refine(F.hok a o e).stay (fun b v hb q=>?_) (fun _ q=>q) fun _ _ q=>q
  refine k b v (F.tr b v ?_ q)
  rcases hb with rfl|hb
  ·rw[e];simp
  ·rw[hb];simp
end
section
variable {X:Cx}{pins:List (Addr×Obj)}{σ:L2.St}{H:Hp}{s:Shared}
theorem ϛc {M:Model}{h2:Heap}{x C:Addr}{vs:List Value}{Q:Unit→Shared→Prop}{E:Value→Shared→Prop} (I:Inv X pins σ H s) (hst:X.stack=X.env::X.outer) (hfm:X.env.frame=some X.env.locals) (hex:X.ex=[]) (hx:Heap.MadeExcOf s.heap h2 x (.ref C) vs)
  (q:∀h' B,Fly X.prog X.w X.outer X.H₀ X.s₀ x C H { s with heap:=h' } B→Q () { s with heap:=h' }):wpAny M X.A (leaving X.env (.ref x)) Q E { s with heap:=h2 }:=by
 have hfr:X.A.frames=some (X.env::X.outer):=by rw[← hst];exact I.ok.frames
 have hstk:=I.stack
 have inB:∀b o,s.heap.get? b=some o→b∉frs X.stack→(PySem.W.hideAll s.heap (frs X.stack)).get? b=some o:=fun b o e n=>PySem.W.hideAll_get _ e n
 have nst:∀b o,X.s₀.heap.get? b=some o→b∉X.fs→b∉frs X.stack:=fun b o e n hb=>by
  rcases List.mem_cons.mp (I.stkSub b hb) with z|z
  ·exact absurd (Nat.lt_of_lt_of_le (Heap.lt_size e) I.ok.above) (by rw[z];exact Nat.lt_irrefl _)
  ·exact n z
 have noex:∀b:Addr,b∉X.ex:=fun b=>by rw[hex];simp
 have fsub:∀b∈X.fs,b∈frs X.stack:=fun b hb=>by
  rw[hst];unfold frs;rw[List.filterMap_cons,hfm];exact List.mem_cons_of_mem _ hb
 have hff:=PySem.W.funFrames_hide (as:=frs X.stack) hstk (fun env he a ha=>List.mem_filterMap.mpr ⟨env,he,ha⟩)
 rw[hst] at hff
 refine wpAny_leaves_madeW (base:=PySem.W.hideAll s.heap (frs (X.env::X.outer))) (h:=s.heap) (s:={ s with heap:=h2 }) (L:=X.env.locals) hfr hfm (fun b o e=>PySem.W.of_hideAll _ e) hff hx fun h' t f1 f2 f3 f4=>?_
 rw[← hst] at f1 f3
 have keepB:∀b o,s.heap.get? b=some o→b∉frs X.stack→h'.get? b=some o:=fun b o e n=>f1.1 b o (inB b o e n)
 have slot:∀b∈frs X.stack,∀o,s.heap.get? b=some o→∃sl,h'.get? b=some { o with slots:=sl }:=fun b hb o e=>by
  obtain⟨_,o',e',d⟩:=hstk.mem hb
  rw[e] at e';cases e'
  exact f4 b o (hx.keeps b o e) d
 have xnew:X.s₀.heap.get? x=none:=by
  cases e:X.s₀.heap.get? x with
  |none=>rfl
  |some o=>
   obtain⟨o',e'⟩:=I.base.there x o e (noex x)
   rw[hx.new] at e';cases e'
 refine q h' _ ⟨I.os,I.bare,⟨fun b o e n hb _=>?_,fun b o e n hb _=>?_,fun b o e n _=>I.base.free b o e n (noex b),fun b o e _=>?_,I.base.tups,I.base.frzs,I.base.tbls⟩,fun a u e=>?_,⟨t,f1⟩,xnew,?_,fun b o hb e=>?_,fun b o e n hb=>?_,fun b o e hb=>?_,fun b hb=>?_⟩
 ·exact keepB b o (I.base.keep b o e n hb (noex b)) (nst b o e hb)
 ·obtain⟨sl,e1⟩:=I.base.slot b o e n hb (noex b)
  obtain⟨sl',e2⟩:=slot b (fsub b hb) _ e1
  exact⟨sl',e2⟩
 ·obtain⟨o',e1⟩:=I.base.there b o e (noex b)
  by_cases hb:b∈frs X.stack
  ·obtain⟨sl,e2⟩:=slot b hb _ e1
   exact⟨_,e2⟩
  ·exact⟨o',keepB b o' e1 hb⟩
 ·refine(I.hok a u e).stay (fun b v hb q=>keepB b v q fun z=>?_) (fun _ q=>q) fun _ _ q=>q
  have:=I.stkFree b z
  rcases hb with rfl|hb
  ·rw[e] at this;cases this
  ·rw[hb] at this;cases this
 ·cases e:H x with
  |none=>rfl
  |some u=>
   obtain⟨o,e'⟩:=ObjOk.there (I.hok x u e)
   rw[hx.new] at e';cases e'
 ·cases e':H b with
  |none=>exact absurd e' hb
  |some u=>
   obtain⟨o1,e1⟩:=ObjOk.there (I.hok b u e')
   have nb:b∉frs X.stack:=fun z=>by have:=I.stkFree b z;rw[e'] at this;cases this
   have e2:=keepB b o1 e1 nb
   have e3:h'.get? b=some o:=e
   rw[e3] at e2;cases e2
   exact inB b o e1 nb
 ·exact inB b o (I.base.keep b o e n hb (noex b)) (nst b o e hb)
 ·obtain⟨o',e1⟩:=I.base.there b o e (noex b)
  exact⟨o',inB b o' e1 (nst b o e hb)⟩
 ·exact I.stkFree b (fsub b hb)
theorem ϛz {M:Model}{s2:Shared}{H2:Hp}{x C:Addr}{B:Heap}{Q:Unit→Shared→Prop}{E:Value→Shared→Prop} (I:Inv X pins σ H s) (hst:X.stack=X.env::X.outer) (hfm:X.env.frame=some X.env.locals) (hex:X.ex=[]) (F:Fly X.prog X.w X.stack H s x C H2 s2 B)
  (q:∀h',Fly X.prog X.w X.outer X.H₀ X.s₀ x C H2 { s2 with heap:=h' } B→Q () { s2 with heap:=h' }):wpAny M X.A (leaving X.env (.ref x)) Q E s2:=by
 have hfr:X.A.frames=some (X.env::X.outer):=by rw[← hst];exact I.ok.frames
 obtain⟨t,fl⟩:=F.fl
 have nst:∀b o,X.s₀.heap.get? b=some o→b∉X.fs→b∉frs X.stack:=fun b o e n hb=>by
  rcases List.mem_cons.mp (I.stkSub b hb) with z|z
  ·exact absurd (Nat.lt_of_lt_of_le (Heap.lt_size e) I.ok.above) (by rw[z];exact Nat.lt_irrefl _)
  ·exact n z
 have noex:∀b:Addr,b∉X.ex:=fun b=>by rw[hex];simp
 have fsub:∀b∈X.fs,b∈frs X.stack:=fun b hb=>by
  rw[hst];unfold frs;rw[List.filterMap_cons,hfm];exact List.mem_cons_of_mem _ hb
 have fl':=fl
 rw[hst] at fl'
 refine wpAny_leaves_onW hfr hfm fl' fun h' f1 f2=>?_
 obtain⟨un,hok⟩:=F.turn f1.1 f2
 have xnew:X.s₀.heap.get? x=none:=by
  cases e:X.s₀.heap.get? x with
  |none=>rfl
  |some o=>
   obtain⟨o',e'⟩:=I.base.there x o e (noex x)
   rw[F.new] at e';cases e'
 refine q h' ⟨?_,F.bare,⟨fun b o e n hb _=>?_,fun b o e n hb _=>?_,fun b o e n _=>?_,fun b o e _=>?_,fun b xs e=>un.tups b xs (I.base.tups b xs e),fun b o u e=>un.frzs b o u (I.base.frzs b o u e),fun b ps e=>?_⟩,hok,⟨t,f1⟩,xnew,F.xf,fun b o hb e=>?_,fun b o e n hb=>?_,fun b o e hb=>?_,fun b hb=>F.ff b (fsub b hb)⟩
 ·exact F.os.trans I.os
 ·exact un.keep b o (I.base.keep b o e n hb (noex b)) (I.base.free b o e n (noex b)) (nst b o e hb) (by simp)
 ·obtain⟨sl,e1⟩:=I.base.slot b o e n hb (noex b)
  obtain⟨sl',e2⟩:=un.slot b _ e1 (I.base.free b o e n (noex b)) (fsub b hb) (by simp)
  exact⟨sl',e2⟩
 ·obtain⟨o',e1⟩:=I.base.there b o e (noex b)
  exact un.free b o' e1 (I.base.free b o e n (noex b)) (by simp)
 ·obtain⟨o',e1⟩:=I.base.there b o e (noex b)
  exact un.there b o' e1 (by simp)
 ·obtain⟨m1,e1⟩:=I.base.tbls b ps e
  obtain⟨m2,e2⟩:=un.tbls b _ e1
  exact⟨m1++m2,by rw[e2,Array.append_assoc]⟩
 ·cases e':H2 b with
  |none=>exact absurd e' hb
  |some u=>
   obtain⟨o1,e1⟩:=ObjOk.there (F.hok b u e')
   have e2:=F.tr b o1 hb e1
   have e3:=f1.1 b o1 e2
   have e4:h'.get? b=some o:=e
   rw[e4] at e3;cases e3
   exact e2
 ·exact F.ol b o (I.base.keep b o e n hb (noex b)) (I.base.free b o e n (noex b)) (nst b o e hb)
 ·obtain⟨o',e1⟩:=I.base.there b o e (noex b)
  exact F.th b o' e1 (nst b o e hb)
end
end L3
namespace L3
open PySem PySem.Spec PyProof.Rows L2 PySem.W PySem.Builtin PySem.Builtin.ObjectAttr PySem.Builtin.Getset_descriptor PySem.Calls
structure XCls (K:Frag) (C:Addr):Prop where
 ga:findIn K (.ref C) "__getattribute__"=some (some (.builtin "BaseException.__getattribute__"))
 gh:findIn K (.ref C) "__getattr__"=some none
 bs:mroIn K C (.type "BaseException")=some true
 cl:(clsIn K C).isSome=true
 ha:findIn K (.ref C) "__class__"=some (some (.builtin "object.__class__"))
 hn:specialIn K (.builtin "object.__class__") "__get__"=some (some (.builtin "getset_descriptor.__get__"))
 htk:takesIn K (.builtin "object.__class__")=some true
 hm:mroIn K C (.type "object")=some true
section
variable {prog:Program}{w:World}{A:Around}{E:Value→Shared→Prop}{s:Shared}{K:Frag}{x C:Addr}
end
end L3
namespace L3
open PySem PySem.Spec PyProof.Rows L2
abbrev bmV:List Value:=[.type "ValueError",.type "Exception",.type "BaseException",.type "object"]
theorem own_obj {K:PySem.W.Frag}{h:Heap}{C:Addr}{bB:List Value}{nid:String} (X:K.In h) (e:PySem.W.excIn K C bB nid=true) :
  ∃bm N nm q bs hd sn sub ab col dd k0 k1 k2 k3 k5 mN,h.get? C=some (excClassObj nm q C N bs bm hd sn sub ab col dd k0 k1 k2 k3 k5 nid)∧h.Ns N mN∧mN "__init__"=none∧OwnTail h bB bm:=by
 unfold PySem.W.excIn at e
 split at e
 ·rename_i dd cd slots hl
  split at e
  ·rename_i C1 bm k0 k1 k2 k3 n1 k5 hmro hslots
   simp only[Bool.and_eq_true,beq_iff_eq,Bool.not_eq_true'] at e
   obtain⟨⟨⟨⟨⟨e1,e2⟩,e3⟩,e4⟩,e5⟩,e6⟩:=e
   subst e1 e2
   obtain⟨a1,a2,a3,a4,a5,a6,a7,a8,a9,a10,a11⟩:=cd
   dsimp only at hmro e3 e5 e6
   subst hmro e3
   have es:slots=#[k0,k1,k2,k3,some (.builtin n1),k5]:=by
    obtain⟨l⟩:=slots
    simp only at hslots
    rw[hslots]
   subst es
   exact⟨bm,a4,a1,a5,a2,a6,a7,a8,a9,a10,dd,k0,k1,k2,k3,k5,_,X _ _ hl,.of_isNs (PySem.W.isNs_of_in X e5),PySem.W.nsMap_none_of_in X e5 e6,PySem.W.tail_of_in X e4⟩
  ·cases e
 ·cases e
structure OwnX (K:PySem.W.Frag) (mg:Str→Option Value) (x:Str) (C:Addr):Prop where
 nm:mg x=some (.ref C)
 ex:PySem.W.excIn K C bmV "ValueError.__new__"=true
section
variable {X:Cx}
def ϛ2 (X:Cx) (E:XK):Prop:=∀(pins:List (Addr×Obj)) (σ:L2.St) (H:Hp) (s:Shared) (h2:Heap) (x C:Addr) (vs:List Value),Inv X pins σ H s→Heap.MadeExcOf s.heap h2 x (.ref C) vs→E (.ref C) none H→X.xe (.ref x) { s with heap:=h2 }
def tRaise (C:Addr) (E:XK) (te:TE):TS:=fun _ σ H=>te σ H fun v H1=>[v].length=1∧E (.ref C) none H1
theorem ϡS {x:Str}{C:Addr}{E:XK}{e:Expr}{te:TE}{np cpos pos:Pos} (O:OwnX X.K X.mg x C) (hc:X.calm=true) (hg:Gl X x) (hR:ϛ2 X E) (he:PE X e te) (hd:(x == ("__debug__":Str))=false:=by decide)
  (hs:starEach [e] X.env=[(false,eval e X.env)]:=by rfl) (hpl:(backTo cpos (starEach [e] X.env)).any (·.1)=false:=by rfl):PS X (.Raise (some (.Call (.Name x np) [e] [] cpos)) none pos) (tRaise C E te):=by
 intro pins s σ H D I h
 obtain⟨bm,N,nm,q,bs,hdct,sn,sub,ab,col,dd,k0,k1,k2,k3,k5,mN,hC,hN,hni,T⟩:=own_obj (h:=X.base) I.ok.mod.kin O.ex
 have FV:=PySem.F.excBase_ValueError
 refine wpAny_Raise_call_subU (C:=C) (nm:=nm) (q:=q) (N:=N) (bs:=bs) (bm:=bm) (hdct:=hdct) (sn:=sn) (sub:=sub) (ab:=ab) (col:=col) (dd:=dd) (k0:=k0) (k1:=k1) (k2:=k2) (k3:=k3) (k5:=k5) (mN:=mN)
  FV (by decide) FV (T.hasType FV.hasBase) (I.ok.hd hc) hpl hni (ϵY I hg O.nm ⟨rfl,?_⟩ hd)
 have pa:PA X [e] (tCons te tNil):=ϖa he ϖf hs
 rw[hs]
 refine Calls.evalArgs_plain ?_
 have run:=pa cpos pins s σ H (fun ws H1=>ws.length=1∧E (.ref C) none H1) I h
 rw[hs] at run
 refine wpAny_mono run (fun vs s2 ⟨ws,H2,I2,rv,hw,hE⟩=>?_) fun _ _ y=>y
 have hl:vs.length≤sizeLine:=by
  rw[← rv.length,hw];decide
 exact⟨rfl,hl,I2.bk _ _ hC,hN.keeps I2.bk,T.keeps I2.bk,fun h' x0 hm=>hR pins σ H2 s2 h' x0 C vs I2 hm hE⟩
def Cal1 (P:Program) (w:World) (K:PySem.W.Frag) (mg:Str→Option Value) (base:Heap) (x:Str) (ps:List Str) (k:Nat) (sp:Sp):Prop:=
 ∃f fd,FnOk P w K mg base (CX1 P w) k f fd ps sp∧Binds K fd ps []∧PySem.W.keepIn K (.ref f)=true∧mg x=some (.ref f)
def tFn1 (sp:Sp) (E:XK) (t:TA):TE:=fun σ H Q=>t σ H fun vs H1=>sp vs H1 Q E
theorem ϲ1 {x:Str}{ps:List Str}{k k':Nat}{sp:Sp}{E:XK}{p pos:Pos}{e:Expr}{es:List Expr}{t:TA} (C:Cal1 X.prog X.w X.K X.mg X.base x ps k sp) (hr:Room k' X.A) (hk:k≤k') (hg:Gl X x) (hx:ϲF (CX1 X.prog X.w) X E)
  (ha:PA X (e::es) t) (hdb:(x == ("__debug__":Str))=false:=by decide) (he:starEach (e::es) X.env=(false,eval e X.env)::starEach es X.env:=by rfl) (hpl:(backTo pos (starEach es X.env)).any (·.1)=false:=by rfl) :
  PE X (.Call (.Name x p) (e::es) [] pos) (tFn1 sp E t):=by
 obtain⟨f,fd,F,b,kp,hm⟩:=C
 intro pins s σ H Q I h
 refine wpAny_Call_Name_kw (ϵY I hg hm ?_ hdb)
 refine PySem.W.callWith_K (h₀:=X.base) I.ok.mod.kin kp (thn (ha pos pins s σ H _ I h) fun us s1 ⟨vs,H1,I1,r,q⟩=>⟨I1.kIn,?_⟩) he hpl
 exact run_fn (dvs:=[]) F (hr.mono hk) b .nil hx I1 r (by rw[List.append_nil];exact q)
theorem ϝK:ϲF (CX1 X.prog X.w) X E0:=fun _ _ _ _ _ _ _ ⟨_,_,_,_,_,_,h⟩=>h.elim
end
section
variable {P:Program}{w:World}{K:PySem.W.Frag}{mg:Str→Option Value}{base:Heap}{N:List Str}{qual:Str}{scope:Scope}{f:Addr}{cd:Value}{A:Around}{outer:List Env}{s:Shared}{H:Hp}{E:XK}
theorem ϡx:ϲF (CX1 P w) (cxOf (CX1 P w) P w K mg base N qual scope f cd A outer s H E) E:=by
 intro pins σ H1 s1 e s2 I h
 obtain⟨x,C,H2,B,rfl,F,hE⟩:=h
 show wpAny (model P w) _ (leaving _ (.ref x)) _ _ s2
 exact ϛz I rfl rfl rfl F fun h' F'=>⟨x,C,H2,B,rfl,F',hE⟩
theorem ϡ3:ϛ2 (cxOf (CX1 P w) P w K mg base N qual scope f cd A outer s H E) E:=by
 intro pins σ H1 s1 h2 x C vs I hm hE
 show wpAny (model P w) _ (leaving _ (.ref x)) _ _ _
 exact ϛc I rfl rfl rfl hm fun h' B F'=>⟨x,C,H1,B,rfl,F',hE⟩
theorem Fun.ok1 {x:Str}{st:Stmt}{fd:FuncData}{ps:List Str}{k:Nat}{sp:Sp} (F:Fun K x qual st f fd) (S:FnScope N ps (ϖj st)) (len:∀vs H Q E,sp vs H Q E→vs.length=ps.length)
  (hbody:∀(cdv:Value) (A:Around) (outer:List Env) (s:Shared) (H:Hp) (vs:List V) (Q:VK) (E:XK),Room k (A.deeper (envOfC qual (ϖj st) s.heap.objs.size f cdv))→sp vs H Q E →
   ∃t,PSs (cxOf (CX1 P w) P w K mg base N qual (ϖj st) f cdv A outer s H E) (ϖB st) t∧t { nx:=fun _ H'=>Q .non H',rt:=Q } (start N vs) H):FnOk P w K mg base (CX1 P w) (k+1) f fd ps sp:=by
 obtain⟨oc,od,kV,doc,pm,an,cdv,ct,osl,rfl,lk,hcd⟩:=F.ex
 exact fn_of lk hcd S len fun A outer s H vs Q E hr hsp=>hbody cdv A outer s H vs Q E hr hsp
theorem own_on:PassesOwn (model P w) (cxOf (CX1 P w) P w K mg base N qual scope f cd A outer s H E).A (cxOf (CX1 P w) P w K mg base N qual scope f cd A outer s H E).env (cxOf (CX1 P w) P w K mg base N qual scope f cd A outer s H E).xe:=PassesOwn.leaving
end
section
variable {X:Cx}
end
end L3
namespace L3
open PySem PySem.Spec PyProof.Rows L2
section
variable {X:Cx}{pins:List (Addr×Obj)}{σ:L2.St}{H:Hp}{s:Shared}
end
end L3
namespace L3
open PySem PySem.Spec PyProof.Rows L2
section
variable {X:Cx}{pins:List (Addr×Obj)}{σ:L2.St}{H:Hp}{s:Shared}
end
end L3
namespace L3
open PySem PySem.Spec PyProof.Rows L2 PySem.W
section
variable {X:Cx}
end
end L3
namespace L3
open PySem PySem.Spec PyProof.Rows L2
end L3
namespace L3
open PySem PySem.Spec PyProof.Rows L2
theorem pe_or {X:Cx}{e:Expr}{t1 t2:TE} (h1:PE X e t1) (h2:PE X e t2):PE X e (fun σ H Q=>t1 σ H Q∨t2 σ H Q):=fun pins s σ H Q I h=>h.elim (h1 pins s σ H Q I) (h2 pins s σ H Q I)
end L3
namespace L3
open PySem PySem.Spec PyProof.Rows L2
section
variable {prog:Program}{w:World}{κ:Type} [DecidableEq κ] {knd:HeapKind prog w κ}{A:Around}{E:Value→Shared→Prop}{s:Shared}
theorem sd_heap {d a:Addr}{xs:List (κ×Addr×Value)}{k:κ}{v:Value}{Q:Value→Shared→Prop} (hu:knd.room A) (hkey:knd.is s.heap k a) (hm:s.heap.DictOfH knd d xs) (hsz:xs.length≤sizeLine)
  (h1:∀p,atKey xs k=some p→Q p.2 { s with toks:=s.toks+knd.draws k })
  (h2:atKey xs k=none→∀h',h'.DictOfH knd d (storedH xs k a v)→Heap.SameBut d s.heap h'→Q v { s with heap:=h',toks:=s.toks+knd.draws k }) :
  wpAny (model prog w) A (dictSetDefault d (.ref a) v) Q E s:=by
 obtain⟨o,es,ep,ho,hc,hd,he,his,hn⟩:=hm
 unfold dictSetDefault
 try with_reducible refine wpAny_holding ?_
 refine wpAny_bind (knd.pyHash hu hkey (wpAny_bind (wpAny_dictFind_heap (s:={ s with toks:=s.toks+knd.draws k }) hu hkey ho hd he his hn ?_ ?_)))
 ·intro hno
  have hnot:k∉xs.map (·.1):=not_mem_keys_of_get hno
  have hsn:=storedH_new (a:=a) (v:=v) (atKey_none_of_get hno)
  refine wpAny_bind (wpAny_rule (wpAny_bind (wpAny_updateDictKeys (hz:=by have e:=size_of_entries he;omega) (s:={ s with toks:=s.toks+knd.draws k }) ho hd (wpAny_pure
   (h2 (atKey_none_of_get hno) _ ⟨_,_,ep+1,Heap.get?_update_self _ ho (Obj.isFreed_of_dict (Obj.data_mapDictKeys hd _)),hc.mapDictKeys _,Obj.data_mapDictKeys hd _,?_,?_,?_⟩ (Heap.SameBut.update ..))))))
  ·rw[hsn];simp[he,entryOfKey]
  ·rw[hsn]
   intro x hx
   rcases List.mem_append.mp hx with hx|hx
   ·exact knd.keeps (his x hx) ho hd (Heap.SameBut.update ..)
   ·cases List.mem_singleton.mp hx
    exact knd.keeps hkey ho hd (Heap.SameBut.update ..)
  ·rw[hsn,List.map_append,List.nodup_append]
   refine⟨hn,by simp,fun x hx y hy=>?_⟩
   cases List.mem_singleton.mp hy
   exact fun e=>hnot ((show x=k from e)▸hx)
 ·intro j p hj
  refine wpAny_bind (wpAny_dictEntries (s:={ s with toks:=s.toks+knd.draws k }) ho hd ?_)
  rw[entry_at he j,hj]
  exact wpAny_bind (wpAny_rule (wpAny_pure (h1 _ (atKey_of_get hn hj))))
theorem ϛN {d a:Addr} (hd:(d == sysModules)=false) (dflt:Value) :
  MeetsIn prog w (Builtin.«dict.setdefault» ⟨[.ref d,.ref a,dflt],[]⟩) (fun A R s=>knd.room A.in1∧∃k xs,knd.is s.heap k a∧s.heap.DictOfH knd d xs∧xs.length≤sizeLine ∧
   (∀ p,atKey xs k=some p→R (.ok (.ret p.2)) { s with toks:=s.toks+knd.draws k }) ∧
   (atKey xs k=none→∀h',h'.DictOfH knd d (storedH xs k a dflt)→Heap.SameBut d s.heap h'→R (.ok (.ret dflt)) { s with heap:=h',toks:=s.toks+knd.draws k })):=
 .of_wp fun A R s ⟨hu,k,xs,hkey,hm,hz,h1,h2⟩=>by
  unfold Builtin.«dict.setdefault»
  refine wpAny_bind ?_
  unfold Builtin.Dict.keyAndDefault
  refine wpAny_bind (wpAny_notOrdered_dict hm.typeIs ?_)
  show wpAny _ _ (pure (d,Value.ref a,some dflt)) _ _ s
  refine wpAny_pure ?_
  show wpAny _ _ (if (d == sysModules)=true then _ else (dictSetDefault d (.ref a) dflt >>= _)) _ _ s
  rw[if_neg (by rw[hd];exact Bool.false_ne_true)]
  exact wpAny_bind (sd_heap hu hkey hm hz (fun p hp=>wpAny_pure ⟨_,rfl,h1 p hp⟩) fun hn h' hm' hs'=>wpAny_pure ⟨_,rfl,h2 hn h' hm' hs'⟩)
end
section
variable {X:Cx}
def rSetD:V→List V→Hp→VK→Prop:=fun x vs H Q=>∃a y z,x=.ref a∧vs=[y,z] ∧
 ((∃ kvs k,H a=some (.dK kvs)∧y=kV k∧kvs.length < sizeLine∧(∀ r,valV kvs k=some r→Q r H)∧(valV kvs k=none→Q z (upd H a (.dK (putK kvs k z))))) ∨
  ∃kvs k b,H a=some (.dT kvs)∧y=.ref b∧H b=some (.tup (k.map kV))∧kvs.length < sizeLine∧(∀ r,valV kvs k=some r→Q r H)∧(valV kvs k=none→Q z (upd H a (.dT (putK kvs k z)))))
theorem ϝc (a b c:Value):argsOk "dict.setdefault" ⟨[a,b,c],[]⟩:=by unfold argsOk;kernel_rfl
theorem ϰC {k0:Nat} (hr:Room k0 X.A):MtR X "dict.setdefault" rSetD:=by
 intro pins s σ H x vs v us Q I rx rv h
 obtain⟨a,y,z,rfl,rfl,h⟩:=h
 cases rx
 obtain⟨u,r,rfl,ru,rr⟩:=ϟy rv
 rcases h with⟨kvs,k,e,rfl,hl,h1,h2⟩|⟨kvs,k,b,e,rfl,eb,hl,h1,h2⟩
 ·obtain⟨hz,hd,ws,rel,dd⟩:=dk_of I.hok e
  refine call_meetsIn PySem.F.slot_dict_setdefault dd.typeIs PySem.F.entry_dict_setdefault (ϝc _ _ _) (kt_meets_setdefault (ϖv X.prog X.w) a (ϲS ru) hd r)
   ⟨ws,dd,by rw[← rel.length];exact hz,fun v' hv'=>?_,fun hn h' dd' hs=>?_⟩
  ·have q:=rel.val k
   rw[hv'] at q
   cases hk:valV kvs k with
   |none=>rw[hk] at q;exact q.elim
   |some r'=>rw[hk] at q;exact⟨r',H,I.tok _,q,h1 r' hk⟩
  ·have q:=rel.val k
   rw[hn] at q
   cases hk:valV kvs k with
   |some r'=>rw[hk] at q;exact q.elim
   |none=>
    refine⟨z,_,ϵD I (by rw[e];exact True.intro) hs (let ⟨q,_,_,hq,_⟩:=dd';⟨q,hq⟩) (ϛV ?_ hd (rel.put k rr) dd'),rr,h2 hk⟩
    have:=ϕm kvs k z
    omega
 ·cases (show u=Value.ref b from ru)
  obtain⟨hz,hd,xs,rel,dd⟩:=dt_of I.hok e
  refine call_meetsIn PySem.F.slot_dict_setdefault dd.typeIs PySem.F.entry_dict_setdefault (ϝc _ _ _) (ϛN (knd:=tupleKind (ϖv X.prog X.w)) (d:=a) (a:=b) hd r)
   ⟨tupleKind_room_in1 (ϑT hr),k,xs,ϱ0 I.hok eb,dd,by rw[← Paired.length rel];exact hz,fun p hp=>?_,fun hn h' dd' hs=>?_⟩
  ·have q:=rel.val k
   rw[hp] at q
   cases hk:valV kvs k with
   |none=>rw[hk] at q;exact q.elim
   |some r'=>rw[hk] at q;exact⟨r',H,I.tok _,q,h1 r' hk⟩
  ·have q:=rel.val k
   rw[hn] at q
   cases hk:valV kvs k with
   |some r'=>rw[hk] at q;exact q.elim
   |none=>
    obtain⟨q,es,ep,hq,g2,g3,g4,_,g5⟩:=dd'
    refine⟨z,upd H a (.dT (putK kvs k z)),ϵD (ob:=.dT (putK kvs k z)) I (by rw[e];exact True.intro) hs ⟨q,hq⟩ ⟨?_,hd,_,(rel.put k eb rr).keeps fun c ys ec=>?_,q,es,ep,hq,g2,g3,g4,g5⟩,rr,h2 hk⟩
    ·have:=ϕm kvs k z
     omega
    ·rw[ϖp (ne_of ec e (fun z=>nomatch z))]
     exact ec
def rGet2:V→List V→Hp→VK→Prop:=fun x vs H Q=>∃a y z o,x=.ref a∧vs=[y,z]∧DGet H a y o∧Q (o.getD z) H
theorem ϝ_ {k0:Nat} (hr:Room k0 X.A):MtR X "dict.get" rGet2:=by
 intro pins s σ H x vs v us Q I rx rv h
 obtain⟨a,y,z,o,rfl,rfl,g,q⟩:=h
 cases rx
 obtain⟨u,r,rfl,ru,rr⟩:=ϟy rv
 exact d_get2 (ϑT hr) I g ru rr fun w' s' I' rw'=>⟨_,H,I',rw',q⟩
end
end L3
namespace L3
open PySem PySem.Spec PyProof.Rows L2
def Its (x:Str):It:=⟨fun i _=>i < x.cps.size,fun i H v H'=>H'=H∧∃c,x.cps[i]?=some c∧v=.str ⟨#[c]⟩,fun i _=>x.cps.size≤i⟩
theorem ϝm {prog:Program}{w:World}{A:Around} (hh:A.handled=none) (it:Addr) (x:Str) (t:Tok) {ty:String} (hty:ty="str_ascii_iterator"∨ty="str_iterator") :
  Walks prog w A it [it] [it] x.cps.size (SignAt x) (fun i h=>h.IsStrIter it ty x t i):=by
 rcases hty with rfl|rfl
 ·exact Walks.strAscii hh it x t
 ·exact Walks.strWide hh it x t
theorem ϡU {P:Program}{w:World}{K:PySem.W.Frag}{tg:Expr} (it:Addr) (x:Str) (t:Tok) {ty:String} (hty:ty="str_ascii_iterator"∨ty="str_iterator"):Turn P w K tg (Its x) [it] it (fun i h=>h.IsStrIter it ty x t i) where
 mem:=by simp
 obj:=fun i h st b hb=>by
  have e:b=it:=by simpa using hb
  subst e
  obtain⟨o,e,c,d⟩:=st
  exact⟨o,e,fun v z=>by rw[d] at z;cases z⟩
 keep:=fun i h h' st k=>let ⟨o,ho,r⟩:=st;⟨o,k it (by simp) o ho,r⟩
 item:=by
  intro X hP hw hK hc i pins s σ H E I hf st hg
  subst hP hw hK
  obtain⟨f0,f1,f2,f3,f4,f5⟩:=hf it (by simp)
  refine(ϝm (prog:=X.prog) (w:=X.w) (I.ok.hd hc) it x t hty).item i s _ _ hg st fun v h' tk hv st' kk=>?_
  obtain⟨c,u,hcx,rfl⟩:=hv
  have I1:Inv X pins σ H { s with heap:=h',toks:=tk }:=I.turned (fun b o hb e=>kk b o (by simpa using hb) e) f0 f1 f3 f4 f5
  obtain⟨o,e,cc,d⟩:=id st'
  exact⟨_,rfl,ϛt (s:={ s with heap:=h',toks:=tk }) e cc d (by rcases hty with rfl|rfl<;>decide) ⟨.str ⟨#[c]⟩,H,I1,⟨u,rfl⟩,⟨rfl,c,hcx,rfl⟩,st',fun b hb=>(hf b hb).1⟩⟩
 done:=by
  intro X hP hw hK hc i pins s σ H E I hf st hg
  subst hP hw hK
  obtain⟨f0,f1,f2,f3,f4,f5⟩:=hf it (by simp)
  have hx:x.cps[i]?=none:=Array.getElem?_eq_none hg
  rcases hty with rfl|rfl
  ·exact wpAny_pyNext_ascii_end (I.ok.hd hc) st hx fun h' eb=>⟨rfl,I.turned (t':=s.toks) (fun b o hb e=>eb b o hb e) f0 f1 f3 f4 f5⟩
  ·exact wpAny_pyNext_wide_end (I.ok.hd hc) st hx fun h' eb=>⟨rfl,I.turned (t':=s.toks) (fun b o hb e=>eb b o hb e) f0 f1 f3 f4 f5⟩
 self:=fun _ _ _ _ _ st h=>by
  rcases hty with rfl|rfl
  ·exact wpAny_pyIter_striter_ascii st h
  ·exact wpAny_pyIter_striter_wide st h
section
variable {X:Cx}{tg:Expr}
def iStr (tl:TE):TI:=fun σ H R=>tl σ H fun x H1=>∃z,x=.str z∧R (Its z) H1
theorem ϛ3 {l:Expr}{tl:TE} (hl:PE X l tl):PI X tg l (iStr tl):=by
 intro pins s σ H R I h
 refine thn (hl pins s σ H _ I h) fun v s1 ⟨x,H1,I1,r1,q1⟩=>?_
 obtain⟨z,e,q⟩:=q1
 subst e
 obtain⟨t,rfl⟩:=r1
 have fp:∀b∈[s1.heap.objs.size],FpOk X pins H1 b:=fun b hb=>by
  have e:b=s1.heap.objs.size:=by simpa using hb
  subst e
  exact I1.fpOk (Nat.le_refl _) (I1.hok.fresh (Nat.le_refl _))
 cases ha:z.cps.all (· < 128)
 ·exact wpAny_pyIter_wide ha ⟨s1.heap.objs.size,[s1.heap.objs.size],_,_,H1,rfl,I1.kept (t':=s1.toks) fun b o e=>Heap.get?_push_of_some _ e,ϡU _ z t (.inr rfl),⟨_,Heap.get?_push_size _ rfl,rfl,rfl⟩,fp,q⟩
 ·exact wpAny_pyIter_ascii ha ⟨s1.heap.objs.size,[s1.heap.objs.size],_,_,H1,rfl,I1.kept (t':=s1.toks) fun b o e=>Heap.get?_push_of_some _ e,ϡU _ z t (.inl rfl),⟨_,Heap.get?_push_size _ rfl,rfl,rfl⟩,fp,q⟩
end
end L3
namespace L3
open PySem PySem.Spec PyProof.Rows L2 PySem.W
def RawD (d:Addr) (es:Array DictEntry) (p:Nat) (h:Heap):Prop:=∃b,h.get? d=some b∧b.ExactDict∧b.data=.dict es p
section
variable {prog:Program}{w:World}{A:Around}{E:Value→Shared→Prop}{s:Shared}{d it:Addr}{es:Array DictEntry}{p i:Nat}
theorem RawD.ty (r:RawD d es p s.heap):s.TypeIs (.ref d) "dict":=let ⟨b,e,x,_⟩:=r;⟨b,e,x.1⟩
theorem RawD.at {h h':Heap} (r:RawD d es p h) (k:∀o,h.get? d=some o→h'.get? d=some o):RawD d es p h':=let ⟨b,e,x⟩:=r;⟨b,k _ e,x⟩
theorem RawD.lt {h:Heap} (r:RawD d es p h):d < h.objs.size:=let ⟨_,e,_⟩:=r;Heap.lt_size e
theorem ϝk {Q:Value→Shared→Prop} (lo:(d == sysModules)=false) (r:RawD d es p s.heap)
  (q:Q (.ref s.heap.objs.size) { s with heap:=s.heap.push { cls:=.type "dict_keyiterator",data:=.fields #[.ref d,.int 0 0,.int es.size 0,.int p 0] } }):wpAny (model prog w) A (pyIter (.ref d)) Q E s:=by
 obtain⟨b,eb,xb,db⟩:=id r
 refine wpAny_pyIter_slot r.ty PySem.F.slot_dict_iter (wpAny_call_entry PySem.F.slot_dict_iter r.ty PySem.F.entry_dict_iter ?_ (PySem.F.args_dict_iter_1 _))
 unfold Builtin.«dict.__iter__»
 refine wpAny_bind ?_
 unfold Builtin.Dict.dictSlotNone
 refine wpAny_bind (wpAny_notOrdered_dict r.ty ?_)
 show wpAny _ _ (pure (.ref d:Value)) _ _ s
 refine wpAny_pure ?_
 show wpAny _ _ (Builtin.Dict.showsAll d >>= fun _=>_) _ _ s
 unfold Builtin.Dict.showsAll
 rw[lo]
 refine wpAny_bind (wpAny_pure (wpAny_bind (wpAny_dictEntries eb db (wpAny_bind (wpAny_dictEpoch eb db ?_)))))
 exact wpAny_bind (wpAny_newObj_type (wpAny_pure ⟨_,rfl,_,_,⟨_,Heap.get?_push_size _ rfl,rfl⟩,PySem.F.slot_dict_keyiterator_next.lookup,q⟩))
theorem ϝB {Q:Option Value→Shared→Prop}{e:DictEntry} (st:s.heap.IsKeyIter it d i es.size p) (r:RawD d es p s.heap) (hx:es[i]?=some e)
  (q:∀h',h'.IsKeyIter it d (i+1) es.size p→Heap.SameBut it s.heap h'→Q (some e.key) { s with heap:=h' }):wpAny (model prog w) A (pyNext (.ref it)) Q E s:=by
 obtain⟨b,eb,cb,db⟩:=id st
 obtain⟨c,ec,xc,dc⟩:=id r
 unfold pyNext
 refine wpAny_bind (wpAny_attempt (wpAny_callSpecial?_slot (name:=Str.ofString "__next__") st.typeIs PySem.F.slot_dict_keyiterator_next (wpAny_call_entry PySem.F.slot_dict_keyiterator_next st.typeIs PySem.F.entry_dict_keyiterator_next ?_ (PySem.F.args_dict_keyiterator_next_1 _))))
 refine wpAny_bind (wpAny_pure (wpAny_bind (wpAny_bind ?_)))
 refine wpAny_bind (wpAny_typeNameOfWhole_keyiter st.typeIs (wpAny_pure (wpAny_bind (wpAny_fieldsOf eb db ?_))))
 have own:Builtin.Dict_items.ownsTuple "dict_keyiterator"=false:=by decide
 simp only[own,Bool.false_eq_true,if_false]
 show wpAny _ _ (if (Value.ref d == Value.none)=true then _ else _) _ _ _
 rw[if_neg (by intro z;cases z)]
 refine wpAny_bind (wpAny_pure (wpAny_bind (wpAny_dictEntries ec dc ?_)))
 rw[if_neg (by simp)]
 refine wpAny_bind (wpAny_pure (wpAny_bind (wpAny_dictEpoch ec dc ?_)))
 rw[if_neg (by simp)]
 refine wpAny_pure ?_
 simp only[show ¬ ((i:Int) < 0) by omega,if_false,Int.toNat_natCast,hx]
 refine wpAny_bind (wpAny_bind (wpAny_typeNameOfWhole_keyiter st.typeIs (wpAny_pure ?_)))
 refine wpAny_bind (wpAny_isOneOf_keyiter st.typeIs ?_)
 show wpAny _ _ (setField (.ref it) 1 (rawInt (i+1)) >>= _) _ _ _
 refine wpAny_bind (wpAny_setField eb db (by simp) ?_)
 have st':(s.heap.update it (Obj.mapFields (·.setIfInBounds 1 (rawInt ((i:Int)+1))))).IsKeyIter it d (i+1) es.size p:=
  ⟨_,Heap.get?_update_self _ eb (Obj.isFreed_of_fields (Obj.data_mapFields db _)),(Obj.cls_mapFields ..).trans cb,by rw[Obj.data_mapFields db];simp[rawInt]⟩
 refine wpAny_bind (wpAny_holding (wpAny_bind (wpAny_isOneOf_keyiter (s:={ s with heap:=_ }) st'.typeIs ?_)))
 show wpAny _ _ (pure e.key) _ _ _
 exact wpAny_pure (wpAny_pure ⟨_,rfl,wpAny_pure (q _ st' (Heap.SameBut.update ..))⟩)
theorem ϛ_ {Q:Option Value→Shared→Prop} (hh:A.handled=none) (st:s.heap.IsKeyIter it d i es.size p) (r:RawD d es p s.heap) (hx:es[i]?=none)
  (q:∀h',Heap.ExtBut it s.heap h'→Q none { s with heap:=h' }):wpAny (model prog w) A (pyNext (.ref it)) Q E s:=by
 obtain⟨b,eb,cb,db⟩:=id st
 obtain⟨c,ec,xc,dc⟩:=id r
 unfold pyNext
 refine wpAny_bind (wpAny_attempt (wpAny_callSpecial?_slot (name:=Str.ofString "__next__") st.typeIs PySem.F.slot_dict_keyiterator_next (wpAny_call_entry PySem.F.slot_dict_keyiterator_next st.typeIs PySem.F.entry_dict_keyiterator_next ?_ (PySem.F.args_dict_keyiterator_next_1 _))))
 refine wpAny_bind (wpAny_pure (wpAny_bind (wpAny_bind ?_)))
 refine wpAny_bind (wpAny_typeNameOfWhole_keyiter st.typeIs (wpAny_pure (wpAny_bind (wpAny_fieldsOf eb db ?_))))
 have own:Builtin.Dict_items.ownsTuple "dict_keyiterator"=false:=by decide
 simp only[own,Bool.false_eq_true,if_false]
 show wpAny _ _ (if (Value.ref d == Value.none)=true then _ else _) _ _ _
 rw[if_neg (by intro z;cases z)]
 refine wpAny_bind (wpAny_pure (wpAny_bind (wpAny_dictEntries ec dc ?_)))
 rw[if_neg (by simp)]
 refine wpAny_bind (wpAny_pure (wpAny_bind (wpAny_dictEpoch ec dc ?_)))
 rw[if_neg (by simp)]
 refine wpAny_pure ?_
 simp only[show ¬ ((i:Int) < 0) by omega,if_false,Int.toNat_natCast,hx]
 refine wpAny_bind (wpAny_bind (wpAny_typeNameOfWhole_keyiter st.typeIs (wpAny_pure ?_)))
 show wpAny _ _ (setField (.ref it) 0 Value.none >>= _) _ _ _
 refine wpAny_bind (wpAny_setField eb db (by simp) ?_)
 show wpAny _ _ (newExc (.type "StopIteration") ([]:List Value) >>= _) _ _ _
 refine wpAny_bind ?_
 simp only[newExc,newTuple]
 refine wpAny_bind (wpAny_newObj_type (wpAny_bind (m:=firstArgMember _ _) (wpAny_of_eq (a:=.none) (by first|rfl|(simp only[firstArgMember];rfl)) (wpAny_newObj_type ?_ (by size_fits)))) (by size_fits))
 simp only[raiseNew]
 refine wpAny_bind (wpAny_handled ?_)
 rw[show A.in1.handled=none from hh]
 refine wpAny_bind (wpAny_pure (wpAny_throw ?_))
 refine wpAny_bind (wpAny_isInstance (b:=true) (T:="StopIteration") ⟨_,Heap.get?_push_size _ rfl,rfl⟩ isSubtype_stop ?_)
 exact wpAny_pure (q _ (((Heap.SameBut.update ..).extBut.push _).push _))
theorem ϛm (hh:A.handled=none) (hne:d≠it) (es:Array DictEntry) (p:Nat) :
  Walks prog w A it [it,d] [it] es.size (fun i v=>∃e,es[i]?=some e∧v=e.key) (fun i h=>h.IsKeyIter it d i es.size p∧RawD d es p h) where
 sub:=fun b hb=>by simp at hb;simp[hb]
 frame:=fun _ _ _ st k=>⟨st.1.at fun o e=>k it (by simp) o e,st.2.at fun o e=>k d (by simp) o e⟩
 item:=fun i s Q E hi st q=>by
  have hx:es[i]?=some es[i]:=by simp[hi]
  exact ϝB st.1 st.2 hx fun h' st' sb=>q _ h' s.toks ⟨_,hx,rfl⟩ ⟨st',st.2.at fun o e=>sb.extBut d o hne e⟩ fun b o hb e=>sb.extBut b o (fun z=>hb (by simp[z])) e
 done:=fun s Q E st q=>ϛ_ hh st.1 st.2 (by simp) fun h' eb=>q h' s.toks fun b o hb e=>eb b o (fun z=>hb (by simp[z])) e
 self:=fun _ _ _ _ st q=>wpAny_pyIter_keyiter st.1 q
theorem ϝb (lo:(d == sysModules)=false):KdlSrc prog w "dict" d d es.size (fun i v=>∃e,es[i]?=some e∧v=e.key) (RawD d es p) where
 type:=fun _ r=>r.ty
 there:=fun _ r=>⟨r.lt,r.lt⟩
 keep:=fun _ _ r k=>r.at fun o e=>k d (.inl rfl) o e
 notList:=by decide
 notTuple:=by decide
 hint:=fun _ _ _ _ r q=>kdl_hint_dict r.ty q
 iter:=fun _ _ hh r=>⟨_,_,fun _ _ q=>ϝk lo r q,ϛm hh (Nat.ne_of_lt r.lt) es p,⟨⟨_,Heap.get?_push_size _ rfl,rfl,rfl⟩,r.at fun o e=>Heap.get?_push_of_some _ e⟩⟩
end
end L3
namespace L3
open PySem PySem.Spec PyProof.Rows L2 PySem.W
section
variable {prog:Program}{w:World}{A:Around}{E:Value→Shared→Prop}{s:Shared}{d:Addr}{es:Array DictEntry}{p:Nat}
theorem ϵn {Q:Value→Shared→Prop} (lo:(d == sysModules)=false) (r:RawD d es p s.heap) (z:es.size≤sizeLine) (q:∀t s',s'.heap=s.heap→s'={ s with toks:=s'.toks }→Q (.int es.size t) s'):wpAny (model prog w) A (call (.builtin "len") [.ref d]) Q E s:=by
 have zz:es.size≤16777216:=by rw[sizeLine_eq] at z;exact z
 have mt:MeetsIn prog w (Builtin.«dict.__len__» ⟨[.ref d],[]⟩) (fun _ R s=>RawD d es p s.heap∧R (.ok (.ret (.int es.size s.toks))) { s with toks:=s.toks+1 }):=.of_wp fun A R s ⟨r,h⟩=>by
  obtain⟨b,eb,xb,db⟩:=r
  show wpAny _ _ (dictSize d >>= fun _=>_) _ _ s
  unfold dictSize
  refine wpAny_bind (wpAny_bind (wpAny_dictEntries eb db (wpAny_pure ?_)))
  show wpAny _ _ (Builtin.Dict.pendingCount d >>= fun _=>_) _ _ s
  exact wpAny_bind (wpAny_pendingCount_other lo (wpAny_ret_mkInt h))
 refine Calls.call_function_entry kind_len plain_len entry_len (args_len1 _) ?_
 unfold Builtin.«len»
 refine wpAny_bind (m:=oneArg "len" _) (wpAny_pure ?_)
 refine wpAny_bind (m:=callSpecial? (.ref d) (Str.ofString "__len__")) (wpAny_callSpecial?_slot (name:=Str.ofString "__len__") r.ty PySem.F.slot_dict_len
  (call_meetsIn PySem.F.slot_dict_len r.ty PySem.F.entry_dict_len (PySem.F.args_dict_len_1 _) mt ⟨r,?_⟩))
 refine wpAny_bind (wpAny_holding (wpAny_pure (wpAny_bind (wpAny_letGo ?_))))
 show wpAny _ _ (if ((es.size:Nat):Int) < 0 then _ else _) _ _ _
 rw[if_neg (by omega)]
 show wpAny _ _ (if ((es.size:Nat):Int)≥2 ^ 63 then _ else _) _ _ _
 rw[if_neg (by omega)]
 exact wpAny_bind (wpAny_mkInt (wpAny_pure ⟨_,rfl,q _ _ rfl rfl⟩))
end
end L3
namespace L3
open PySem PySem.Spec PyProof.Rows L2 PySem.W
theorem ϑ4 {α β:Type}{F:α→β→Prop}:∀{l:List α}{m:List β}{i:Nat}{a:α},Paired F l m→l[i]?=some a→∃b,m[i]?=some b∧F a b
 |_,_,_,_,.nil,e=>by simp at e
 |_,_,0,_,.cons r _,e=>by simp at e;subst e;exact⟨_,rfl,r⟩
 |_,_,i+1,a,.cons _ t,e=>by
  obtain⟨b,h1,h2⟩:=ϑ4 (i:=i) (a:=a) t (by simpa using e)
  exact⟨b,by simpa using h1,h2⟩
theorem ϝr {ys:List V}{us:List Value} (hl:us.length=ys.length) (h:∀(i:Nat) (u:Value) (y:V),us[i]?=some u→ys[i]?=some y→RelV y u):Vals ys us:=by
 induction ys generalizing us with
 |nil=>cases us with|nil=>exact .nil|cons _ _=>cases hl
 |cons y ys ih=>
  cases us with
  |nil=>cases hl
  |cons u us=>exact .cons (h 0 u y rfl rfl) (ih (Nat.succ.inj hl) fun i u' y' e1 e2=>h (i+1) u' y' (by simpa using e1) (by simpa using e2))
section
variable {X:Cx}{pins:List (Addr×Obj)}{σ:L2.St}{H:Hp}{s:Shared}{a:Addr}
theorem raw_k {kvs:List (Key×V)} (I:Inv X pins σ H s) (e:H a=some (.dK kvs)):kvs.length≤sizeLine∧(a == sysModules)=false∧∃es p,RawD a es p s.heap∧es.size=kvs.length∧∀(i:Nat) (x:DictEntry) (kv:Key×V),es[i]?=some x→kvs[i]?=some kv→RelV (kV kv.1) x.key:=by
 obtain⟨z,lo,vs,r,o,es,p,h1,h2,h3,h4,h5,h6⟩:=(show ObjOk X.prog X.w H s.heap a (.dK kvs) from I.hok a _ e)
 have hsz:es.size=kvs.length:=by rw[r.length,← h5.length];simp
 refine⟨z,lo,es,p,⟨o,h1,h2,h3⟩,hsz,fun i x kv ex ek=>?_⟩
 obtain⟨q,hq,⟨e1,_⟩⟩:=ϑ4 r ek
 have hk:=(h5.get? (i:=i) (e:=x) (k:=q.1) (v:=q.2) (by rw[Array.getElem?_toList];exact ex) hq).1
 rw[e1]
 rcases ϖ0 hk with⟨n,t,h7,h8⟩|⟨n,t,h7,h8⟩
 ·rw[h7,h8];exact⟨t,rfl⟩
 ·rw[h7,h8];exact⟨t,rfl⟩
theorem raw_t {kvs:List (List Key×V)} (I:Inv X pins σ H s) (e:H a=some (.dT kvs)):kvs.length≤sizeLine∧(a == sysModules)=false∧∃es p,RawD a es p s.heap∧es.size=kvs.length ∧
  ∃bs:List Addr,Paired (fun (kv:List Key×V) b=>H b=some (.tup (kv.1.map kV))) kvs bs∧∀(i:Nat) (x:DictEntry) (b:Addr),es[i]?=some x→bs[i]?=some b→x.key=.ref b:=by
 obtain⟨z,lo,xs,r,o,es,p,h1,h2,h3,h4,h9⟩:=(show ObjOk X.prog X.w H s.heap a (.dT kvs) from I.hok a _ e)
 have hsz:es.size=kvs.length:=by rw[Paired.length r,← Array.length_toList,h4,List.length_map]
 refine⟨z,lo,es,p,⟨o,h1,h2,h3⟩,hsz,xs.map (·.2.1),?_,fun i x b ex eb=>?_⟩
 ·clear h4 h9 hsz z e
  induction r with
  |nil=>exact .nil
  |cons q _ ih=>exact .cons q.2.1 ih
 ·rw[← Array.getElem?_toList,h4,List.getElem?_map] at ex
  rw[List.getElem?_map] at eb
  cases hx:xs[i]? with
  |none=>rw[hx] at eb;cases eb
  |some q=>
   rw[hx] at ex eb
   cases ex
   cases eb
   rfl
def DLen (H:Hp) (a:Addr) (n:Nat):Prop:=(∃ kvs,H a=some (.dK kvs)∧n=kvs.length)∨∃kvs,H a=some (.dT kvs)∧n=kvs.length
theorem ϵB:CallR X (.builtin "len") (fun xs H Q=>∃a n,xs=[.ref a]∧DLen H a n∧Q (.int n) H):=by
 intro pins s σ H xs us Q I r h
 obtain⟨a,n,rfl,hd,q⟩:=h
 obtain⟨u,rfl,ru⟩:=ϱs r
 cases ru
 rcases hd with⟨kvs,e,rfl⟩|⟨kvs,e,rfl⟩
 ·obtain⟨z,lo,es,p,rr,hs,_⟩:=raw_k I e
  refine ϵn lo rr (by rw[hs];exact z) fun t s' _ e'=>?_
  rw[e',hs]
  exact⟨.int kvs.length,H,I.tok _,⟨t,rfl⟩,q⟩
 ·obtain⟨z,lo,es,p,rr,hs,_⟩:=raw_t I e
  refine ϵn lo rr (by rw[hs];exact z) fun t s' _ e'=>?_
  rw[e',hs]
  exact⟨.int kvs.length,H,I.tok _,⟨t,rfl⟩,q⟩
def rListD:List V→Hp→VK→Prop:=fun xs H Q=>∃a,xs=[.ref a] ∧
 ((∃ kvs,H a=some (.dK kvs)∧∀l,H l=none→Q (.ref l) (upd H l (.lst (kvs.map fun kv=>kV kv.1)))) ∨
  ∃kvs,H a=some (.dT kvs)∧∀(bs:List Addr) l,Paired (fun (kv:List Key×V) b=>H b=some (.tup (kv.1.map kV))) kvs bs→H l=none→Q (.ref l) (upd H l (.lst (bs.map V.ref))))
theorem ϡB (hc:X.calm=true):CallR X (.type "list") rListD:=by
 intro pins s σ H xs us Q I r h
 obtain⟨a,rfl,h⟩:=h
 obtain⟨u,rfl,ru⟩:=ϱs r
 cases ru
 have fin:∀(ys:List V) (es:Array DictEntry) (h':Heap) (tk:Nat) (acc:Array Value) (c:Nat),ys.length≤sizeLine→es.size=ys.length→(∀ (i:Nat) (x:DictEntry) (y:V),es[i]?=some x→ys[i]?=some y→RelV y x.key) →
   (∀ b o,s.heap.get? b=some o→h'.get? b=some o)→h'.get? s.heap.objs.size=some { cls:=.type "list",dict:=none,data:=.seq acc c,slots:=#[] }→ItemsOf (fun i v=>∃e,es[i]?=some e∧v=e.key) acc es.size →
   (∀ l,H l=none→Q (.ref l) (upd H l (.lst ys)))→EP X pins σ Q (.ref s.heap.objs.size) { s with heap:=h',toks:=tk }:=fun ys es h' tk acc c z hs hr kp e it q=>by
  refine⟨.ref s.heap.objs.size,_,I.laid (t':=tk) (o:=.lst ys) kp (Nat.le_refl _) ⟨z,acc.toList,c,ϝr (by rw[Array.length_toList,it.1,hs]) fun i u y e1 e2=>?_,?_⟩,rfl,q _ (I.hok.fresh (Nat.le_refl _))⟩
  ·obtain⟨x,ex,rfl⟩:=it.2 i u (by rw[← Array.getElem?_toList];exact e1)
   exact hr i x y ex e2
  ·rw[Array.toArray_toList];exact e
 rcases h with⟨kvs,e,q⟩|⟨kvs,e,q⟩
 ·obtain⟨z,lo,es,p,rr,hs,hr⟩:=raw_k I e
  refine kdl_call (ϝb (p:=p) lo) (I.ok.hd hc) rr (by rw[hs];exact z) fun h' tk acc c kp e' it=>fin _ es h' tk acc c (by rw[List.length_map];exact z) (by rw[List.length_map];exact hs) (fun i x y ex ey=>?_) kp e' it q
  rw[List.getElem?_map] at ey
  cases hk:kvs[i]? with
  |none=>rw[hk] at ey;cases ey
  |some kv=>rw[hk] at ey;cases ey;exact hr i x kv ex hk
 ·obtain⟨z,lo,es,p,rr,hs,bs,pb,hr⟩:=raw_t I e
  have hb:=Paired.length pb
  refine kdl_call (ϝb (p:=p) lo) (I.ok.hd hc) rr (by rw[hs];exact z) fun h' tk acc c kp e' it=>fin _ es h' tk acc c (by rw[List.length_map,← hb];exact z) (by rw[List.length_map,← hb];exact hs) (fun i x y ex ey=>?_) kp e' it fun l hl=>q bs l pb hl
  rw[List.getElem?_map] at ey
  cases hk:bs[i]? with
  |none=>rw[hk] at ey;cases ey
  |some b=>rw[hk] at ey;cases ey;exact hr i x b ex hk
end
end L3
namespace L3
open PySem PySem.Spec PyProof.Rows L2
theorem ϝT:bootBuiltins "sorted"=some (.builtin "sorted"):=by decide +kernel
theorem ϝz {x:Str}{g:TG}{tb:TS}{D:Ends}{σ:L2.St}{H:Hp} (Pv:Nat→L2.St→Hp→Prop) (h0:Pv 0 σ H)
  (hs:∀i c σ H,x.cps.toList[i]?=some c→Pv i σ H→g (.str ⟨#[c]⟩) σ H fun σ2 H2=>tb { D with nx:=Pv (i+1),ct:=Pv (i+1),bk:=D.nx } σ2 H2) (hd:∀σ H,Pv x.cps.toList.length σ H→D.nx σ H) :
  ∃W:Nat→Nat→L2.St→Hp→Prop,(∃ m,W 0 m σ H)∧∀i m σ H,W i m σ H →
   ((Its x).stop i H∧D.nx σ H)∨((Its x).go i H∧∃N:L2.St→Hp→Prop,(∀ σ' H',N σ' H'→∃m',m' < m∧W (i+1) m' σ' H')∧∀v H',(Its x).yld i H v H'→g v σ H' fun σ2 H2=>tb { D with nx:=N,ct:=N,bk:=D.nx } σ2 H2):=by
 refine⟨fun i m σ H=>m=x.cps.size-i∧i≤x.cps.size∧Pv i σ H,⟨x.cps.size,by simp,Nat.zero_le _,h0⟩,?_⟩
 rintro i m σ H ⟨rfl,hi,p⟩
 by_cases c:i < x.cps.size
 ·refine .inr ⟨c,Pv (i+1),fun σ' H' p'=>⟨x.cps.size-(i+1),by omega,rfl,c,p'⟩,fun v H' y=>?_⟩
  obtain⟨rfl,k,hk,rfl⟩:=y
  exact hs i k σ _ (by rw[Array.getElem?_toList];exact hk) p
 ·have e:i=x.cps.toList.length:=by rw[Array.length_toList];omega
  refine .inl ⟨Nat.le_of_not_lt c,hd σ H (e▸p)⟩
end L3
namespace L3
open PySem PySem.Spec PyProof.Rows L2
end L3
namespace L3
open PySem PySem.Spec PyProof.Rows L2
section
variable {X:Cx}{pins:List (Addr×Obj)}{σ:List (Option V)}{H:Hp}{s:Shared}{h':Heap}
theorem turned2 {t':Nat}{e it:Addr} (I:Inv X pins σ H s) (k:∀b o,b≠e→b≠it→s.heap.get? b=some o→h'.get? b=some o) (fe:FpOk X pins H e) (fi:FpOk X pins H it):Inv X pins σ H { s with heap:=h',toks:=t' }:=by
 have ne:∀b u,H b=some u→b≠e∧b≠it:=fun b u q=>⟨(fun z=>by rw[z,fe.1] at q;cases q),(fun z=>by rw[z,fi.1] at q;cases q)⟩
 have kk:∀b o,b∉[e,it]→s.heap.get? b=some o→h'.get? b=some o:=fun b o hc q=>k b o (fun z=>hc (by simp[z])) (fun z=>hc (by simp[z])) q
 refine I.step (g':=s.gens) (d':=s.drawn) (ch:=[e,it]) ?_ (fun b o _ _ hc q _=>kk b o hc q) (fun b o _ _ hc q _=>⟨o.slots,kk b o hc q⟩) (fun _ _ _ _ n=>n)
  (fun b o hc q=>⟨o,kk b o hc q⟩) (fun _ _ q=>q) (fun _ _ _ q=>q) (fun b ps q=>⟨#[],by rw[q];simp⟩) ?_ ?_ I.bare
 ·intro b hb
  have hb:b=e∨b=it:=by simpa using hb
  rcases hb with rfl|rfl
  ·exact⟨fe.2.2.2.1,fe.2.1,fe.2.2.2.2.1,fe.2.2.2.2.2⟩
  ·exact⟨fi.2.2.2.1,fi.2.1,fi.2.2.2.2.1,fi.2.2.2.2.2⟩
 ·rintro m ⟨o,es,ep,ho,r⟩
  exact⟨o,es,ep,k _ o (Ne.symm fe.2.1) (Ne.symm fi.2.1) ho,r⟩
 ·intro b u q
  refine(I.hok b u q).stay (fun c v hc z=>?_) (fun _ z=>z) fun _ _ z=>z
  have:c≠e∧c≠it:=by
   rcases hc with y|y
   ·rw[y];exact ne b u q
   ·exact ne c _ y
  exact k c v this.1 this.2 z
end
def Ite (K:PySem.W.Frag) (a:Addr):It:=
 ⟨fun i H=>∃xs x,SqL K H a xs∧xs[i]?=some x,fun i H x H'=>∃p y,H p=none∧x=.ref p∧H'=upd H p (.tup [.int i,y])∧∀xs,SqL K H a xs→xs[i]?=some y,fun i H=>∃xs,SqL K H a xs∧xs.length≤i⟩
theorem ϝ2 {P:Program}{w:World}{K:PySem.W.Frag}{es:List Expr}{x1:Nat}{tp:Pos}{a e it:Addr} (hne:e≠it) :
  Turn P w K (.Tuple es x1 tp) (Ite K a) [e,it] e (fun i h=>∃old,IsEnum h e it (i:Int) old∧h.IsListIter it a i) where
 mem:=by simp
 obj:=by
  rintro i h ⟨old,he,o,e1,c,d⟩ b hb
  have hb:b=e∨b=it:=by simpa using hb
  rcases hb with rfl|rfl
  ·exact⟨_,he,fun v z=>by cases z⟩
  ·exact⟨o,e1,fun v z=>by rw[d] at z;cases z⟩
 keep:=by
  rintro i h h' ⟨old,he,st⟩ k
  exact⟨old,k e (by simp) _ he,st.at fun o q=>k it (by simp) o q⟩
 item:=by
  intro X hP hw hK hc i pins s σ H E I hf st hg
  subst hP hw hK
  obtain⟨old,he,hit⟩:=st
  obtain⟨xs,x,hq,hx⟩:=hg
  obtain⟨its,rv,p,hz⟩:=I.list hq
  obtain⟨u,hu,ru⟩:=rv.get hx
  have fe:=hf e (by simp)
  have fi:=hf it (by simp)
  refine wpAny_pyNext_enum_item he hit p.isList (x:=u) (by simpa using hu) hne fun h1 heo hit1 ht1 hz1 hk1=>⟨_,rfl,?_⟩
  refine wpAny_letOwnedTupleGo_enum heo fun h2 he2 hs2=>?_
  replace hs2:Heap.SameBut e h1 h2:=hs2
  have hel:e < s.heap.objs.size:=Heap.lt_size he
  have hil:it < s.heap.objs.size:=by obtain⟨o,ho,_⟩:=hit;exact Heap.lt_size ho
  have hp0:H s.heap.objs.size=none:=I.hok.fresh (Nat.le_refl _)
  have ht2:h2.get? s.heap.objs.size=some { cls:=.type "tuple",data:=.seq #[.int i s.toks,u] }:=(hs2.2 _ (Nat.ne_of_gt hel)).trans ht1
  have I1:Inv X pins σ (upd H s.heap.objs.size (.tup [.int i,x])) { s with heap:=s.heap.push { cls:=.type "tuple",data:=.seq #[.int i s.toks,u] },toks:=s.toks+1 }:=
   I.laid (fun b v q=>Heap.get?_push_of_some _ q) (Nat.le_refl _) ⟨by show 2≤sizeLine;decide,[.int i s.toks,u],.cons ⟨_,rfl⟩ (.cons ru .nil),⟨_,Heap.get?_push_size _ rfl,rfl,_,rfl⟩⟩
  have off:∀b,b < s.heap.objs.size→FpOk X pins H b→FpOk X pins (upd H s.heap.objs.size (.tup [.int i,x])) b:=fun b hb f=>⟨by rw[ϖp (Nat.ne_of_lt hb)];exact f.1,f.2⟩
  have I2:Inv X pins σ (upd H s.heap.objs.size (.tup [.int i,x])) { s with heap:=h2,toks:=s.toks+1 }:=turned2 (s:={ s with heap:=s.heap.push { cls:=.type "tuple",data:=.seq #[.int i s.toks,u] },toks:=s.toks+1 }) (t':=s.toks+1) I1 (fun b o n1 n2 q=>by
   replace q:(s.heap.push { cls:=.type "tuple",data:=.seq #[.int i s.toks,u] }).get? b=some o:=q
   rcases Heap.get?_push_cases q with⟨z,z'⟩|q'
   ·subst z;subst z';exact ht2
   ·exact(hs2.2 b n1).trans (hk1 b o n1 n2 q')) (off e hel fe) (off it hil fi)
  refine⟨.ref s.heap.objs.size,_,I2,rfl,⟨_,x,hp0,rfl,rfl,fun ys hy=>by rw[I.list_inj hy hq];exact hx⟩,⟨u,?_,?_⟩,fun b hb=>?_⟩
  ·have e1:((i+1:Nat):Int)=(i:Int)+1:=by push_cast;rfl
   rw[e1];exact he2
  ·exact hit1.extBut hs2.extBut (Ne.symm hne)
  ·have hb:b=e∨b=it:=by simpa using hb
   rcases hb with rfl|rfl
   ·exact(off _ hel fe).1
   ·exact(off _ hil fi).1
 done:=by
  intro X hP hw hK hc i pins s σ H E I hf st hg
  subst hP hw hK
  obtain⟨old,he,hit⟩:=st
  obtain⟨xs,hq,hx⟩:=hg
  obtain⟨its,rv,p,hz⟩:=I.list hq
  have hl:=rv.length
  obtain⟨f0,f1,f2,f3,f4,f5⟩:=hf it (by simp)
  exact wpAny_pyNext_enum_end (I.ok.hd hc) he hit p.isList (by simp;omega) fun h' eb=>⟨rfl,I.turned (t':=s.toks) (fun b o hb q=>eb b o hb q) f0 f1 f3 f4 f5⟩
 self:=fun _ _ _ _ _ ⟨_,he,_⟩ h=>wpAny_pyIter_enum he h
section
variable {X:Cx}
def iEnu (K:PySem.W.Frag) (ta:TA):TI:=fun σ H R=>ta σ H fun vs H1=>∃a,vs=[.ref a]∧(∃ xs,SqL K H1 a xs)∧R (Ite K a) H1
theorem ϛS {l:Expr}{ta:TA}{p pos tp:Pos}{es:List Expr}{x1:Nat} (hg:Gl X "enumerate") (hm:X.mg "enumerate"=none) (ha:PA X [l] ta) (hs:starEach [l] X.env=[(false,eval l X.env)]:=by rfl) :
  PI X (.Tuple es x1 tp) (.Call (.Name "enumerate" p) [l] [] pos) (iEnu X.K ta):=by
 intro pins s σ H R I h
 refine Call_ (ϱY I hg hm boot_enumerate (PyProof.Rows.callWith_type1 (thn (ha pos pins s σ H _ I h) fun us s1 ⟨vs,H1,I1,r1,q1⟩=>?_) hs rfl))
 obtain⟨a,rfl,⟨xs,hq⟩,q⟩:=q1
 cases r1 with
 |cons r rr=>
  cases rr
  cases r
  obtain⟨its,rv,pL,hz⟩:=I1.list hq
  refine call_enumerate_list pL.isList fun h' he hit hz' hk=>?_
  refine wpAny_pyIter_enum he ?_
  refine⟨_,[s1.heap.objs.size+1,s1.heap.objs.size],_,_,H1,rfl,I1.kept (t':=s1.toks) hk,ϝ2 (e:=s1.heap.objs.size+1) (it:=s1.heap.objs.size) (Nat.succ_ne_self _),⟨.none,he,hit⟩,fun b hb=>?_,q⟩
  have hb:b=s1.heap.objs.size+1∨b=s1.heap.objs.size:=by simpa using hb
  rcases hb with rfl|rfl
  ·exact I1.fpOk (by omega) (I1.hok.fresh (by omega))
  ·exact I1.fpOk (Nat.le_refl _) (I1.hok.fresh (Nat.le_refl _))
end
theorem for_enu {K:PySem.W.Frag}{a:Addr}{xs:List V}{g:TG}{tb:TS}{D:Ends}{σ:L2.St}{H:Hp} (Pv:Nat→L2.St→Hp→Prop) (h0:Pv 0 σ H) (hl:∀i σ H,i≤xs.length→Pv i σ H→SqL K H a xs)
  (hs:∀i x p σ H,xs[i]?=some x→Pv i σ H→H p=none→g (.ref p) σ (upd H p (.tup [.int i,x])) fun σ2 H2=>tb { D with nx:=Pv (i+1),ct:=Pv (i+1),bk:=D.nx } σ2 H2) (hd:∀σ H,Pv xs.length σ H→D.nx σ H) :
  ∃W:Nat→Nat→L2.St→Hp→Prop,(∃ m,W 0 m σ H)∧∀i m σ H,W i m σ H →
   ((Ite K a).stop i H∧D.nx σ H)∨((Ite K a).go i H∧∃N:L2.St→Hp→Prop,(∀ σ' H',N σ' H'→∃m',m' < m∧W (i+1) m' σ' H')∧∀x H',(Ite K a).yld i H x H'→g x σ H' fun σ2 H2=>tb { D with nx:=N,ct:=N,bk:=D.nx } σ2 H2):=by
 refine⟨fun i m σ H=>m=xs.length-i∧i≤xs.length∧Pv i σ H,⟨xs.length,by simp,Nat.zero_le _,h0⟩,?_⟩
 rintro i m σ H ⟨rfl,hi,p⟩
 have q:=hl i σ H hi p
 by_cases hlt:i < xs.length
 ·refine .inr ⟨⟨xs,xs[i],q,by simp[hlt]⟩,Pv (i+1),fun σ' H' p'=>⟨xs.length-(i+1),by omega,rfl,hlt,p'⟩,fun x H' y=>?_⟩
  obtain⟨b,z,hb,rfl,rfl,y⟩:=y
  exact hs i z b σ H (y xs q) p hb
 ·have e:i=xs.length:=by omega
  subst e
  exact .inl ⟨⟨xs,q,Nat.le_refl _⟩,hd σ H p⟩
end L3
namespace L3
open PySem PySem.Spec PyProof.Rows L2
theorem ϵU {K:PySem.W.Frag}{a:Addr}{xs:List V}{g:TG}{tb:TS}{D:Ends}{σ:L2.St}{H:Hp} (Pv:Nat→L2.St→Hp→Prop) (h0:Pv 0 σ H) (hl:∀i σ H,i≤xs.length→Pv i σ H→SqL K H a xs)
  (hs:∀(b:L2.St→Hp→Prop) (r:VK),b=D.nx→r=D.rt→∀i x p σ H,xs[i]?=some x→Pv i σ H→H p=none→g (.ref p) σ (upd H p (.tup [.int i,x])) fun σ2 H2=>tb { nx:=Pv (i+1),rt:=r,bk:=b,ct:=Pv (i+1) } σ2 H2) (hd:∀σ H,Pv xs.length σ H→D.nx σ H) :
  ∃W:Nat→Nat→L2.St→Hp→Prop,(∃ m,W 0 m σ H)∧∀i m σ H,W i m σ H →
   ((Ite K a).stop i H∧D.nx σ H)∨((Ite K a).go i H∧∃N:L2.St→Hp→Prop,(∀ σ' H',N σ' H'→∃m',m' < m∧W (i+1) m' σ' H')∧∀x H',(Ite K a).yld i H x H'→g x σ H' fun σ2 H2=>tb { D with nx:=N,ct:=N,bk:=D.nx } σ2 H2):=for_enu Pv h0 hl (hs _ _ rfl rfl) hd
end L3
namespace L3
open PySem PySem.Spec PyProof.Rows L2
section
variable {X:Cx}{pins:List (Addr×Obj)}{σ:List (Option V)}{H:Hp}{s:Shared}
theorem hold_k {a:Addr}{kvs:List (Key×V)} (I:Inv X pins σ H s) (e:H a=some (.dK kvs)):∃o,s.heap.get? a=some o∧Inv X pins σ (upd H a (.frz o (.dK kvs))) s:=by
 have x:=(show ObjOk X.prog X.w H s.heap a (.dK kvs) from I.hok a _ e)
 obtain⟨z,lo,vs,r,o,es,p,h1,h2⟩:=id x
 refine⟨o,h1,?_⟩
 have:=I.write (x:=a) (e:=a) (h':=s.heap) (t':=s.toks) (o:=.frz o (.dK kvs)) (by rw[e];trivial) (.inl rfl) (fun b u _ q=>q) ⟨o,h1⟩ ⟨h1,z,lo,vs,r,o,es,p,h1,h2⟩
 exact this
end
theorem frz_inj {H:Hp}{d:Addr}{o:Obj}{a b:List (Key×V)} (h1:H d=some (.frz o (.dK a))) (h2:H d=some (.frz o (.dK b))):a=b:=by
 rw[h1] at h2;injection h2 with h2;injection h2 with _ h2;injection h2
section
variable {X:Cx}{tg:Expr}
end
end L3
namespace L3
open PySem PySem.Spec PyProof.Rows L2
section
variable {X:Cx}
end
end L3
namespace L3
open PySem PySem.Spec PyProof.Rows L2
def Itm (d:Addr) (o:Obj):It:=
 ⟨fun i H=>∃kvs kv,H d=some (.frz o (.dK kvs))∧kvs[i]?=some kv,fun i H x H'=>∃p k y,H p=none∧x=.ref p∧H'=upd H p (.tup [kV k,y])∧∀kvs,H d=some (.frz o (.dK kvs))→kvs[i]?=some (k,y),fun i H=>∃kvs,H d=some (.frz o (.dK kvs))∧kvs.length≤i⟩
theorem ϵk:entryFor table "dict_itemiterator.__iter__"=some Builtin.«dict_keyiterator.__iter__»:=
 entryFor_alias (id':="dict_keyiterator.__iter__") (by kernel_rfl) (by first|rfl|decide +kernel) (by decide +kernel) (by kernel_rfl)
theorem ϰy {prog:Program}{w:World}{A:Around}{E:Value→Shared→Prop}{s:Shared}{it d:Addr}{i n ep:Nat}{ok ov:Value}{Q:Value→Shared→Prop} (hit:IsItemIter s.heap it d i n ep ok ov) (h:Q (.ref it) s):wpAny (model prog w) A (pyIter (.ref it)) Q E s:=by
 have hT:s.TypeIs (.ref it) "dict_itemiterator":=⟨_,hit,rfl⟩
 refine wpAny_pyIter_slot hT F.slot_dict_itemiterator_iter (wpAny_call_entry F.slot_dict_itemiterator_iter hT ϵk ?_ (F.args_dict_itemiterator_iter_1 _))
 show wpAny _ _ (ret (.ref it)) _ _ s
 exact wpAny_pure ⟨_,rfl,"dict_itemiterator",_,hT,F.slot_dict_itemiterator_next.lookup,h⟩
theorem ϟA {P:Program}{w:World}{K:PySem.W.Frag}{es0:List Expr}{x1:Nat}{tp:Pos}{d it:Addr}{o:Obj}{es:Array DictEntry}{ep:Nat} (ho:o.data=.dict es ep) :
  Turn P w K (.Tuple es0 x1 tp) (Itm d o) [it] it (fun i h=>∃ok ov,IsItemIter h it d i es.size ep ok ov) where
 mem:=by simp
 obj:=by
  rintro i h ⟨ok,ov,he⟩ b hb
  have hb:b=it:=by simpa using hb
  subst hb
  exact⟨_,he,fun v z=>by cases z⟩
 keep:=by
  rintro i h h' ⟨ok,ov,he⟩ k
  exact⟨ok,ov,k it (by simp) _ he⟩
 item:=by
  intro X hP hw hK hc i pins s σ H E I hf st hg
  subst hP hw hK
  obtain⟨kvs,kv,e,hx⟩:=hg
  obtain⟨ok,ov,st⟩:=st
  obtain⟨g1,z,lo,vs,r,o',es',ep',h1,h2,h3,h4,h5,h6⟩:=(show ObjOk X.prog X.w H s.heap d (.frz o (.dK kvs)) from I.hok d _ e)
  have eo:o'=o:=by rw[h1] at g1;injection g1
  subst eo
  rw[h3] at ho
  injection ho with e1 e2
  subst e1;subst e2
  have hsz:es'.size=vs.length:=by rw[← h5.length];simp
  obtain⟨q,hq,⟨k1,rv⟩⟩:=ϑ4 r hx
  obtain⟨f0,f1,f2,f3,f4,f5⟩:=hf it (by simp)
  rw[hsz] at st
  refine wpAny_pyNext_items_item (knd:=ϖv X.prog X.w) (k:=q.1) (v:=q.2) st ⟨o',es',h1,h2,h3,h4,h5,h6⟩ hq fun key h' hk st' ht hz' hk'=>⟨_,rfl,?_⟩
  refine wpAny_letOwnedTupleGo_items st' fun h2' st2 sb=>?_
  replace sb:Heap.SameBut it h' h2':=sb
  have hil:it < s.heap.objs.size:=Heap.lt_size st
  have hp0:H s.heap.objs.size=none:=I.hok.fresh (Nat.le_refl _)
  have ht2:h2'.get? s.heap.objs.size=some { cls:=.type "tuple",data:=.seq #[key,q.2] }:=(sb.2 _ (Nat.ne_of_gt hil)).trans ht
  have rk:RelV (kV kv.1) key:=by
   rw[k1]
   rcases ϖ0 hk with⟨n,t,h7,h8⟩|⟨n,t,h7,h8⟩
   ·rw[h7,h8];exact⟨t,rfl⟩
   ·rw[h7,h8];exact⟨t,rfl⟩
  have I1:Inv X pins σ (upd H s.heap.objs.size (.tup [kV kv.1,kv.2])) { s with heap:=s.heap.push { cls:=.type "tuple",data:=.seq #[key,q.2] } }:=
   I.laid (t':=s.toks) (fun b v q=>Heap.get?_push_of_some _ q) (Nat.le_refl _) ⟨by show 2≤sizeLine;decide,[key,q.2],.cons rk (.cons rv .nil),⟨_,Heap.get?_push_size _ rfl,rfl,_,rfl⟩⟩
  have off:(upd H s.heap.objs.size (.tup [kV kv.1,kv.2])) it=none:=by rw[ϖp (Nat.ne_of_lt hil)];exact f0
  have I2:Inv X pins σ (upd H s.heap.objs.size (.tup [kV kv.1,kv.2])) { s with heap:=h2' }:=Inv.turned (s:={ s with heap:=s.heap.push { cls:=.type "tuple",data:=.seq #[key,q.2] } }) (t':=s.toks) I1 (fun b u n1 q'=>by
   replace q':(s.heap.push { cls:=.type "tuple",data:=.seq #[key,q.2] }).get? b=some u:=q'
   rcases Heap.get?_push_cases q' with⟨z,z'⟩|q''
   ·subst z;subst z';exact ht2
   ·exact(sb.2 b n1).trans (hk' b u n1 q'')) off f1 f3 f4 f5
  refine⟨.ref s.heap.objs.size,_,I2,rfl,⟨_,kv.1,kv.2,hp0,rfl,rfl,fun ws hw=>by rw[frz_inj hw e];exact hx⟩,⟨_,_,by rw[hsz];exact st2⟩,fun b hb=>?_⟩
  have hb:b=it:=by simpa using hb
  subst hb
  exact off
 done:=by
  intro X hP hw hK hc i pins s σ H E I hf st hg
  subst hP hw hK
  obtain⟨kvs,e,hx⟩:=hg
  obtain⟨ok,ov,st⟩:=st
  obtain⟨g1,z,lo,vs,r,o',es',ep',h1,h2,h3,h4,h5,h6⟩:=(show ObjOk X.prog X.w H s.heap d (.frz o (.dK kvs)) from I.hok d _ e)
  have eo:o'=o:=by rw[h1] at g1;injection g1
  subst eo
  rw[h3] at ho
  injection ho with e1 e2
  subst e1;subst e2
  have hsz:es'.size=vs.length:=by rw[← h5.length];simp
  have hvl:kvs.length=vs.length:=r.length
  obtain⟨f0,f1,f2,f3,f4,f5⟩:=hf it (by simp)
  rw[hsz] at st
  exact wpAny_pyNext_items_end (knd:=ϖv X.prog X.w) (I.ok.hd hc) st ⟨o',es',h1,h2,h3,h4,h5,h6⟩ (List.getElem?_eq_none (by omega)) fun h' eb=>⟨rfl,I.turned (t':=s.toks) (fun b u hb q=>eb b u hb q) f0 f1 f3 f4 f5⟩
 self:=fun _ _ _ _ _ ⟨_,_,st⟩ h=>ϰy st h
section
variable {X:Cx}
def iItems (to:TE):TI:=fun σ H R=>to σ H fun x H1=>∃d kvs,x=.ref d∧H1 d=some (.dK kvs)∧∀o,R (Itm d o) (upd H1 d (.frz o (.dK kvs)))
theorem ϛs {l:Expr}{to:TE}{apos cpos tp:Pos}{es0:List Expr}{x1:Nat} (ho:PE X l to) (hbase:attributeBase l "items" X.env (eval l X.env)=eval l X.env:=by rfl) (hline:(apos.endLine == cpos.line)=true:=by rfl) :
  PI X (.Tuple es0 x1 tp) (.Call (.Attribute l "items" apos) [] [] cpos) (iItems to):=by
 intro pins s σ H R I h
 refine wpAny_Call_method0_late hbase hline (thn (ho pins s σ H _ I h) fun v s1 ⟨x,H1,I1,r1,q1⟩=>?_)
 obtain⟨d,kvs,e,hd,q⟩:=q1
 subst e
 cases r1
 obtain⟨o,h0,I2⟩:=hold_k I1 hd
 obtain⟨z,lo,vs,r,o',es,ep,h1,h2,h3,h4,h5,h6⟩:=(show ObjOk X.prog X.w H1 s1.heap d (.dK kvs) from I1.hok d _ hd)
 have eo:o'=o:=by rw[h1] at h0;injection h0
 subst eo
 have hsz:es.size=vs.length:=by rw[← h5.length];simp
 have hD:s1.heap.DictOf (ϖv X.prog X.w) d vs:=⟨o',es,ep,h1,h2,h3,h4,h5,h6⟩
 refine⟨"dict","dict.items",PySem.F.plainAttrs_dict,PySem.F.slot_dict_items,PySem.F.type_dict_items,hD.typeIs,fun a ea=>?_,?_⟩
 ·cases ea;exact⟨o',h1,h2.2.1⟩
 refine Calls.callWith_builtin rfl (PySem.evalArgs_none ?_)
 refine call_meetsIn PySem.F.slot_dict_items hD.typeIs PySem.F.entry_dict_items (PySem.F.args_dict_items_1 _) (meets_dict_items (ϖv X.prog X.w) d lo) ⟨⟨vs,hD⟩,?_⟩
 have hD1:(s1.heap.push { cls:=.type "dict_items",data:=.fields #[.ref d] }).DictAt (ϖv X.prog X.w) d vs ep:=⟨o',es,Heap.get?_push_of_some _ h1,h2,h3,h4,h5,h6⟩
 refine wpAny_pyIter_items (s:={ s1 with heap:=s1.heap.push { cls:=.type "dict_items",data:=.fields #[.ref d] } }) (v:=s1.heap.objs.size) (d:=d) ⟨_,Heap.get?_push_size _ rfl,rfl,rfl⟩ hD1 ?_
 have I3:=I2.kept (t':=s1.toks) (h':=s1.heap.push { cls:=.type "dict_items",data:=.fields #[.ref d] }) fun b u e=>Heap.get?_push_of_some _ e
 refine⟨_,[_],_,_,_,rfl,I3.kept (t':=s1.toks) fun b u e=>Heap.get?_push_of_some _ e,ϟA h3,⟨_,_,by rw[hsz];exact Heap.get?_push_size _ rfl⟩,fun b hb=>?_,q o'⟩
 rw[List.mem_singleton.mp hb]
 exact I3.fpOk (Nat.le_refl _) (I3.hok.fresh (Nat.le_refl _))
end
end L3
namespace L3
open PySem PySem.Spec PyProof.Rows L2 PySem.W
section
variable {prog:Program}{w:World}{A:Around}{E:Value→Shared→Prop}{s:Shared}{d it:Addr}{es:Array DictEntry}{p i:Nat}
theorem rp_view (lo:(d == sysModules)=false):MeetsIn prog w (Builtin.«dict.items» ⟨[.ref d],[]⟩) (fun _ R s=>(∃ es p,RawD d es p s.heap)∧R (.ok (.ret (.ref s.heap.objs.size))) { s with heap:=s.heap.push { cls:=.type "dict_items",data:=.fields #[.ref d] } }):=
 .of_wp fun A R s ⟨⟨es,p,r⟩,q⟩=>by
  unfold Builtin.«dict.items» Builtin.Dict.noArgs
  refine wpAny_bind (wpAny_bind (wpAny_notOrdered_dict r.ty ?_))
  show wpAny _ _ (Pure.pure d) _ _ s
  refine wpAny_pure ?_
  show wpAny _ _ (Builtin.Dict.showsAll d >>= fun _=>_) _ _ s
  unfold Builtin.Dict.showsAll
  rw[lo]
  exact wpAny_bind (wpAny_pure (wpAny_bind (wpAny_newObj_type (wpAny_pure ⟨_,rfl,q⟩))))
theorem rp_iter {v:Addr}{Q:Value→Shared→Prop} (hv:s.heap.IsItemsView v d) (r:RawD d es p s.heap)
  (q:Q (.ref s.heap.objs.size) { s with heap:=s.heap.push { cls:=.type "dict_itemiterator",data:=.fields #[.none,.bool false,.ref d,.int 0 0,.int es.size 0,.int p 0,.none,.none] } }):wpAny (model prog w) A (pyIter (.ref v)) Q E s:=by
 obtain⟨a,ea,ca,da⟩:=id hv
 obtain⟨b,eb,xb,db⟩:=id r
 refine wpAny_pyIter_slot hv.typeIs PySem.F.slot_dict_items_iter (wpAny_call_entry PySem.F.slot_dict_items_iter hv.typeIs PySem.F.entry_dict_items_iter ?_ (PySem.F.args_dict_items_iter_1 _))
 unfold Builtin.«dict_items.__iter__» Builtin.Dict_items.dictOf Builtin.Dict_items.newIterator
 refine wpAny_bind (wpAny_pure (wpAny_bind (wpAny_bind (wpAny_field ea da (x:=.ref d) rfl (wpAny_pure ?_)))))
 refine wpAny_bind (wpAny_bind (wpAny_dictEntries eb db (wpAny_bind (wpAny_dictEpoch eb db ?_))))
 have own:Builtin.Dict_items.ownsTuple "dict_itemiterator"=true:=by decide
 simp only[own,if_true]
 refine wpAny_newObj_type (wpAny_pure ⟨_,rfl,_,_,⟨_,Heap.get?_push_size _ rfl,rfl⟩,PySem.F.slot_dict_itemiterator_next.lookup,?_⟩) (by simp only[sizeOk,Builtin.Dict_items.ownedTupleFields,List.size_toArray,List.length_append,List.length_cons,List.length_nil,sizeLine_eq];omega)
 simpa [rawInt,Builtin.Dict_items.ownedTupleFields] using q
theorem rp_item {Q:Option Value→Shared→Prop}{e:DictEntry}{ok ov:Value} (st:IsItemIter s.heap it d i es.size p ok ov) (r:RawD d es p s.heap) (hx:es[i]?=some e)
  (q:∀h',IsItemIterOut h' it d (i+1) es.size p e.key e.val s.heap.objs.size→h'.get? s.heap.objs.size=some { cls:=.type "tuple",data:=.seq #[e.key,e.val] } →
   (∀ b o,b≠it→s.heap.get? b=some o→h'.get? b=some o)→Q (some (.ref s.heap.objs.size)) { s with heap:=h' }):wpAny (model prog w) A (pyNext (.ref it)) Q E s:=by
 obtain⟨hp,g,dr,tk,os⟩:=s
 obtain⟨c,ec,xc,dc⟩:=id r
 have ty:Shared.TypeIs ⟨hp,g,dr,tk,os⟩ (.ref it) "dict_itemiterator":=⟨_,st,rfl⟩
 unfold pyNext
 refine wpAny_bind (wpAny_attempt (wpAny_callSpecial?_slot (name:=Str.ofString "__next__") ty PySem.F.slot_dict_itemiterator_next (wpAny_call_entry PySem.F.slot_dict_itemiterator_next ty PySem.F.entry_dict_itemiterator_next ?_ (PySem.F.args_dict_itemiterator_next_1 _))))
 refine wpAny_bind (wpAny_pure (wpAny_bind (wpAny_bind ?_)))
 refine wpAny_bind (wpAny_typeNameOfWhole_itemiter ty (wpAny_pure (wpAny_bind (wpAny_fieldsOf st rfl ?_))))
 have own:Builtin.Dict_items.ownsTuple "dict_itemiterator"=true:=by decide
 simp only[own,if_true]
 show wpAny _ _ (if (Value.ref d == Value.none)=true then _ else _) _ _ _
 rw[if_neg (by intro z;cases z)]
 refine wpAny_bind (wpAny_pure (wpAny_bind (wpAny_dictEntries ec dc ?_)))
 rw[if_neg (by simp)]
 refine wpAny_bind (wpAny_pure (wpAny_bind (wpAny_dictEpoch ec dc ?_)))
 rw[if_neg (by simp)]
 refine wpAny_pure ?_
 simp only[show ¬ ((i:Int) < 0) by omega,if_false,Int.toNat_natCast,hx]
 refine wpAny_bind (wpAny_bind (wpAny_typeNameOfWhole_itemiter ty (wpAny_pure (wpAny_bind (wpAny_isOneOf_itemiter ty ?_)))))
 show wpAny _ _ (setField (.ref it) 3 (rawInt (i+1)) >>= _) _ _ _
 refine wpAny_bind (wpAny_setField_rec st (by simp) fun k1 f1 u1=>?_)
 replace u1:Heap.SameBut it hp k1:=u1
 replace f1:IsItemIter k1 it d (i+1) es.size p ok ov:=by
  have z:((i+1:Nat):Int)=(i:Int)+1:=by omega
  unfold IsItemIter;rw[z];simpa [rawInt] using f1
 have ty1:Shared.TypeIs ⟨k1,g,dr,tk,os⟩ (.ref it) "dict_itemiterator":=⟨_,f1,rfl⟩
 refine wpAny_bind (wpAny_holding (wpAny_bind (wpAny_isOneOf_itemiter ty1 (wpAny_bind (wpAny_isOneOf_itemiter ty1 ?_)))))
 show wpAny _ _ (Builtin.Dict_items.pairFromOwner (.ref it) 6 e.key e.val) _ _ _
 unfold Builtin.Dict_items.pairFromOwner Builtin.Dict_items.ownedTupleIsFree
 refine wpAny_bind (wpAny_newTuple ?_)
 have sz:k1.objs.size=hp.objs.size:=u1.1
 have lt:it < hp.objs.size:=Heap.lt_size st
 obtain⟨k2,ek⟩:∃k2,k2=k1.push { cls:=.type "tuple",data:=.seq #[e.key,e.val] }:=⟨_,rfl⟩
 have f2:IsItemIter k2 it d (i+1) es.size p ok ov:=ek▸Heap.get?_push_of_some _ f1
 have t2:k2.get? hp.objs.size=some { cls:=.type "tuple",data:=.seq #[e.key,e.val] }:=by rw[ek,← sz];exact Heap.get?_push_size _ rfl
 have g2:∀b o,b≠it→hp.get? b=some o→k2.get? b=some o:=fun b o n z=>by rw[ek];exact Heap.get?_push_of_some _ (u1.extBut b o n z)
 rw[← ek,sz]
 show wpAny _ _ _ _ _ (Shared.mk k2 g dr tk os)
 clear ek f1 u1 ty1 sz k1
 refine wpAny_bind (wpAny_bind (wpAny_field f2 rfl (x:=.none) rfl (wpAny_pure ?_)))
 simp only[if_true]
 refine wpAny_bind (wpAny_field f2 rfl (x:=ok) rfl (wpAny_bind (wpAny_field f2 rfl (x:=ov) rfl ?_)))
 refine wpAny_bind (wpAny_setField_rec f2 (by simp) fun k3 f3 u3=>?_)
 replace u3:Heap.SameBut it k2 k3:=u3
 replace f3:IsItemIter k3 it d (i+1) es.size p e.key ov:=f3
 refine wpAny_bind (wpAny_setField_rec f3 (by simp) fun k4 f4 u4=>?_)
 replace u4:Heap.SameBut it k3 k4:=u4
 replace f4:IsItemIter k4 it d (i+1) es.size p e.key e.val:=f4
 refine wpAny_bind (wpAny_setField_rec f4 (by simp) fun k5 f5 u5=>?_)
 replace u5:Heap.SameBut it k4 k5:=u5
 replace f5:IsItemIterOut k5 it d (i+1) es.size p e.key e.val hp.objs.size:=f5
 refine wpAny_bind (wpAny_setField_rec f5 (by simp) fun k6 f6 u6=>?_)
 replace u6:Heap.SameBut it k5 k6:=u6
 replace f6:IsItemIterOut k6 it d (i+1) es.size p e.key e.val hp.objs.size:=f6
 have up:∀b o,b≠it→k2.get? b=some o→k6.get? b=some o:=fun b o n z=>u6.extBut b o n (u5.extBut b o n (u4.extBut b o n (u3.extBut b o n z)))
 exact wpAny_bind (wpAny_letGo (wpAny_pure (wpAny_pure ⟨_,rfl,wpAny_pure (q k6 f6 (up _ _ (Nat.ne_of_gt lt) t2) fun b o n z=>up b o n (g2 b o n z))⟩)))
theorem rp_end {Q:Option Value→Shared→Prop}{ok ov:Value} (hh:A.handled=none) (st:IsItemIter s.heap it d i es.size p ok ov) (r:RawD d es p s.heap) (hx:es[i]?=none)
  (q:∀h',Heap.ExtBut it s.heap h'→Q none { s with heap:=h' }):wpAny (model prog w) A (pyNext (.ref it)) Q E s:=by
 obtain⟨c,ec,xc,dc⟩:=id r
 have ty:s.TypeIs (.ref it) "dict_itemiterator":=⟨_,st,rfl⟩
 unfold pyNext
 refine wpAny_bind (wpAny_attempt (wpAny_callSpecial?_slot (name:=Str.ofString "__next__") ty PySem.F.slot_dict_itemiterator_next (wpAny_call_entry PySem.F.slot_dict_itemiterator_next ty PySem.F.entry_dict_itemiterator_next ?_ (PySem.F.args_dict_itemiterator_next_1 _))))
 refine wpAny_bind (wpAny_pure (wpAny_bind (wpAny_bind ?_)))
 refine wpAny_bind (wpAny_typeNameOfWhole_itemiter ty (wpAny_pure (wpAny_bind (wpAny_fieldsOf st rfl ?_))))
 have own:Builtin.Dict_items.ownsTuple "dict_itemiterator"=true:=by decide
 simp only[own,if_true]
 show wpAny _ _ (if (Value.ref d == Value.none)=true then _ else _) _ _ _
 rw[if_neg (by intro z;cases z)]
 refine wpAny_bind (wpAny_pure (wpAny_bind (wpAny_dictEntries ec dc ?_)))
 rw[if_neg (by simp)]
 refine wpAny_bind (wpAny_pure (wpAny_bind (wpAny_dictEpoch ec dc ?_)))
 rw[if_neg (by simp)]
 refine wpAny_pure ?_
 simp only[show ¬ ((i:Int) < 0) by omega,if_false,Int.toNat_natCast,hx]
 refine wpAny_bind (wpAny_bind (wpAny_typeNameOfWhole_itemiter ty (wpAny_pure ?_)))
 show wpAny _ _ (setField (.ref it) 2 Value.none >>= _) _ _ _
 refine wpAny_bind (wpAny_setField st rfl (by simp) ?_)
 show wpAny _ _ (newExc (.type "StopIteration") ([]:List Value) >>= _) _ _ _
 refine wpAny_bind ?_
 simp only[newExc,newTuple]
 refine wpAny_bind (wpAny_newObj_type (wpAny_bind (m:=firstArgMember _ _) (wpAny_of_eq (a:=.none) (by first|rfl|(simp only[firstArgMember];rfl)) (wpAny_newObj_type ?_ (by size_fits)))) (by size_fits))
 simp only[raiseNew]
 refine wpAny_bind (wpAny_handled ?_)
 rw[show A.in1.handled=none from hh]
 refine wpAny_bind (wpAny_pure (wpAny_throw ?_))
 refine wpAny_bind (wpAny_isInstance (b:=true) (T:="StopIteration") ⟨_,Heap.get?_push_size _ rfl,rfl⟩ isSubtype_stop ?_)
 exact wpAny_pure (q _ (((Heap.SameBut.update ..).extBut.push _).push _))
end
section
variable {X:Cx}{pins:List (Addr×Obj)}{σ:List (Option V)}{H:Hp}{s:Shared}
theorem hold_t {a:Addr}{kvs:List (List Key×V)} (I:Inv X pins σ H s) (e:H a=some (.dT kvs)):∃o,s.heap.get? a=some o∧Inv X pins σ (upd H a (.frz o (.dT kvs))) s:=by
 have x:=(show ObjOk X.prog X.w H s.heap a (.dT kvs) from I.hok a _ e)
 obtain⟨z,lo,xs,r,o,es,p,h1,h2⟩:=id x
 refine⟨o,h1,?_⟩
 have ne:∀c ys,H c=some (.tup ys)→c≠a:=fun c ys ec hz=>by rw[hz,e] at ec;cases ec
 exact I.write (x:=a) (e:=a) (h':=s.heap) (t':=s.toks) (o:=.frz o (.dT kvs)) (by rw[e];trivial) (.inl rfl) (fun b u _ q=>q) ⟨o,h1⟩ ⟨h1,z,lo,xs,ϖb (fun _ _ q=>⟨q.1,(ϖp (ne _ _ q.2.1)).trans q.2.1,q.2.2⟩) r,o,es,p,h1,h2⟩
end
def Itt (d:Addr) (o:Obj):It:=
 ⟨fun i H=>∃kvs kv,H d=some (.frz o (.dT kvs))∧kvs[i]?=some kv,fun i H x H'=>∃p b k y,H p=none∧x=.ref p∧H b=some (.tup (k.map kV))∧H'=upd H p (.tup [.ref b,y])∧∀kvs,H d=some (.frz o (.dT kvs))→kvs[i]?=some (k,y),fun i H=>∃kvs,H d=some (.frz o (.dT kvs))∧kvs.length≤i⟩
theorem ϟa {H:Hp}{d:Addr}{o:Obj}{a b:List (List Key×V)} (h1:H d=some (.frz o (.dT a))) (h2:H d=some (.frz o (.dT b))):a=b:=by
 rw[h1] at h2;injection h2 with h2;injection h2 with _ h2;injection h2
theorem ϟM {P:Program}{w:World}{K:PySem.W.Frag}{es0:List Expr}{x1:Nat}{tp:Pos}{d it:Addr}{o:Obj}{es:Array DictEntry}{ep:Nat} (ho:o.data=.dict es ep) :
  Turn P w K (.Tuple es0 x1 tp) (Itt d o) [it] it (fun i h=>∃ok ov,IsItemIter h it d i es.size ep ok ov) where
 mem:=by simp
 obj:=by
  rintro i h ⟨ok,ov,he⟩ b hb
  have hb:b=it:=by simpa using hb
  subst hb
  exact⟨_,he,fun v z=>by cases z⟩
 keep:=by
  rintro i h h' ⟨ok,ov,he⟩ k
  exact⟨ok,ov,k it (by simp) _ he⟩
 item:=by
  intro X hP hw hK hc i pins s σ H E I hf st hg
  subst hP hw hK
  obtain⟨kvs,kv,e,hx⟩:=hg
  obtain⟨ok,ov,st⟩:=st
  obtain⟨g1,z,lo,xs,r,o',es',ep',h1,h2,h3,h4,h5⟩:=(show ObjOk X.prog X.w H s.heap d (.frz o (.dT kvs)) from I.hok d _ e)
  have eo:o'=o:=by rw[h1] at g1;injection g1
  subst eo
  rw[h3] at ho
  injection ho with e1 e2
  subst e1;subst e2
  obtain⟨q,hq,k1,k2,rv⟩:=ϑ4 r hx
  obtain⟨f0,f1,f2,f3,f4,f5⟩:=hf it (by simp)
  have hen:es'[i]?=some (entryOfKey (tupleKind (ϖv X.prog X.w)) q):=by rw[← Array.getElem?_toList,h4,List.getElem?_map,hq];rfl
  refine rp_item st ⟨o',h1,h2,h3⟩ hen fun h' st' ht hk'=>⟨_,rfl,?_⟩
  refine wpAny_letOwnedTupleGo_items st' fun h2' st2 sb=>?_
  replace sb:Heap.SameBut it h' h2':=sb
  have hil:it < s.heap.objs.size:=Heap.lt_size st
  have hp0:H s.heap.objs.size=none:=I.hok.fresh (Nat.le_refl _)
  have ht2:h2'.get? s.heap.objs.size=some { cls:=.type "tuple",data:=.seq #[.ref q.2.1,q.2.2] }:=(sb.2 _ (Nat.ne_of_gt hil)).trans ht
  have I1:Inv X pins σ (upd H s.heap.objs.size (.tup [.ref q.2.1,kv.2])) { s with heap:=s.heap.push { cls:=.type "tuple",data:=.seq #[.ref q.2.1,q.2.2] } }:=
   I.laid (t':=s.toks) (fun b v q=>Heap.get?_push_of_some _ q) (Nat.le_refl _) ⟨by show 2≤sizeLine;decide,[.ref q.2.1,q.2.2],.cons rfl (.cons rv .nil),⟨_,Heap.get?_push_size _ rfl,rfl,_,rfl⟩⟩
  have off:(upd H s.heap.objs.size (.tup [.ref q.2.1,kv.2])) it=none:=by rw[ϖp (Nat.ne_of_lt hil)];exact f0
  have I2:Inv X pins σ (upd H s.heap.objs.size (.tup [.ref q.2.1,kv.2])) { s with heap:=h2' }:=Inv.turned (s:={ s with heap:=s.heap.push { cls:=.type "tuple",data:=.seq #[.ref q.2.1,q.2.2] } }) (t':=s.toks) I1 (fun b u n1 q'=>by
   replace q':(s.heap.push { cls:=.type "tuple",data:=.seq #[.ref q.2.1,q.2.2] }).get? b=some u:=q'
   rcases Heap.get?_push_cases q' with⟨z,z'⟩|q''
   ·subst z;subst z';exact ht2
   ·exact(sb.2 b n1).trans (hk' b u n1 q'')) off f1 f3 f4 f5
  refine⟨.ref s.heap.objs.size,_,I2,rfl,⟨_,q.2.1,kv.1,kv.2,hp0,rfl,k2,rfl,fun ws hw=>by rw[ϟa hw e];exact hx⟩,⟨_,_,st2⟩,fun b hb=>?_⟩
  have hb:b=it:=by simpa using hb
  subst hb
  exact off
 done:=by
  intro X hP hw hK hc i pins s σ H E I hf st hg
  subst hP hw hK
  obtain⟨kvs,e,hx⟩:=hg
  obtain⟨ok,ov,st⟩:=st
  obtain⟨g1,z,lo,xs,r,o',es',ep',h1,h2,h3,h4,h5⟩:=(show ObjOk X.prog X.w H s.heap d (.frz o (.dT kvs)) from I.hok d _ e)
  have eo:o'=o:=by rw[h1] at g1;injection g1
  subst eo
  rw[h3] at ho
  injection ho with e1 e2
  subst e1;subst e2
  have hsz:es'.size=kvs.length:=by rw[Paired.length r,← Array.length_toList,h4,List.length_map]
  obtain⟨f0,f1,f2,f3,f4,f5⟩:=hf it (by simp)
  exact rp_end (I.ok.hd hc) st ⟨o',h1,h2,h3⟩ (Array.getElem?_eq_none (by omega)) fun h' eb=>⟨rfl,I.turned (t':=s.toks) (fun b u hb q=>eb b u hb q) f0 f1 f3 f4 f5⟩
 self:=fun _ _ _ _ _ ⟨_,_,st⟩ h=>ϰy st h
section
variable {X:Cx}
def iPairs (to:TE):TI:=fun σ H R=>to σ H fun x H1=>∃d kvs,x=.ref d∧H1 d=some (.dT kvs)∧∀o,R (Itt d o) (upd H1 d (.frz o (.dT kvs)))
theorem ϛO {l:Expr}{to:TE}{apos cpos tp:Pos}{es0:List Expr}{x1:Nat} (ho:PE X l to) (hbase:attributeBase l "items" X.env (eval l X.env)=eval l X.env:=by rfl) (hline:(apos.endLine == cpos.line)=true:=by rfl) :
  PI X (.Tuple es0 x1 tp) (.Call (.Attribute l "items" apos) [] [] cpos) (iPairs to):=by
 intro pins s σ H R I h
 refine wpAny_Call_method0_late hbase hline (thn (ho pins s σ H _ I h) fun v s1 ⟨x,H1,I1,r1,q1⟩=>?_)
 obtain⟨d,kvs,e,hd,q⟩:=q1
 subst e
 cases r1
 obtain⟨o,h0,I2⟩:=hold_t I1 hd
 obtain⟨z,lo,xs,r,o',es,ep,h1,h2,h3,h4,h5⟩:=(show ObjOk X.prog X.w H1 s1.heap d (.dT kvs) from I1.hok d _ hd)
 have eo:o'=o:=by rw[h1] at h0;injection h0
 subst eo
 have rr:RawD d es ep s1.heap:=⟨o',h1,h2,h3⟩
 refine⟨"dict","dict.items",PySem.F.plainAttrs_dict,PySem.F.slot_dict_items,PySem.F.type_dict_items,rr.ty,fun a ea=>?_,?_⟩
 ·cases ea;exact⟨o',h1,h2.2.1⟩
 refine Calls.callWith_builtin rfl (PySem.evalArgs_none ?_)
 refine call_meetsIn PySem.F.slot_dict_items rr.ty PySem.F.entry_dict_items (PySem.F.args_dict_items_1 _) (rp_view lo) ⟨⟨es,ep,rr⟩,?_⟩
 have r1:RawD d es ep (s1.heap.push { cls:=.type "dict_items",data:=.fields #[.ref d] }):=rr.at fun o e=>Heap.get?_push_of_some _ e
 refine rp_iter (s:={ s1 with heap:=s1.heap.push { cls:=.type "dict_items",data:=.fields #[.ref d] } }) (v:=s1.heap.objs.size) (d:=d) ⟨_,Heap.get?_push_size _ rfl,rfl,rfl⟩ r1 ?_
 have I3:=I2.kept (t':=s1.toks) (h':=s1.heap.push { cls:=.type "dict_items",data:=.fields #[.ref d] }) fun b u e=>Heap.get?_push_of_some _ e
 refine⟨_,[_],_,_,_,rfl,I3.kept (t':=s1.toks) fun b u e=>Heap.get?_push_of_some _ e,ϟM h3,⟨_,_,Heap.get?_push_size _ rfl⟩,fun b hb=>?_,q o'⟩
 rw[List.mem_singleton.mp hb]
 exact I3.fpOk (Nat.le_refl _) (I3.hok.fresh (Nat.le_refl _))
end
theorem ϟw {d:Addr}{o:Obj}{kvs:List (List Key×V)}{g:TG}{tf:TT}{te:TE}{τ:L2.St}{H:Hp}{Q:VK} (Pv:Nat→List V→L2.St→Hp→Prop) (h0:Pv 0 [] τ H) (hl:∀i ys τ H,Pv i ys τ H→H d=some (.frz o (.dT kvs)))
  (hs:∀i k y p b ys τ H,kvs[i]?=some (k,y)→Pv i ys τ H→H p=none→H b=some (.tup (k.map kV))→g (.ref p) τ (upd H p (.tup [.ref b,y])) fun τ2 H2=>tf τ2 H2 fun z H3=>if z=true then te τ2 H3 fun y H4=>ys.length < sizeLine∧Pv (i+1) (ys++[y]) τ2 H4 else Pv (i+1) ys τ2 H3)
  (hd:∀ys τ H,Pv kvs.length ys τ H→∀p,H p=none→Q (.ref p) (upd H p (.lst ys))):ϵc (Itt d o) g tf te Q τ H:=by
 refine⟨fun i m ys τ H=>m=kvs.length-i∧i≤kvs.length∧Pv i ys τ H,⟨kvs.length,by simp,Nat.zero_le _,h0⟩,?_⟩
 rintro i m ys τ H ⟨rfl,hi,p⟩
 have q:=hl i ys τ H p
 by_cases hlt:i < kvs.length
 ·refine .inr ⟨⟨kvs,kvs[i],q,by simp[hlt]⟩,Pv (i+1),fun ys' τ' H' p'=>⟨kvs.length-(i+1),by omega,rfl,hlt,p'⟩,fun x H' y=>?_⟩
  obtain⟨p0,b,k,z,hp,rfl,hb,rfl,y⟩:=y
  exact hs i k z p0 b ys τ H (y kvs q) p hp hb
 ·have e:i=kvs.length:=by omega
  subst e
  exact .inl ⟨⟨kvs,q,Nat.le_refl _⟩,hd ys τ H p⟩
theorem ϟR {d:Addr}{o:Obj}{kvs:List (Key×V)}{g:TG}{tf:TT}{te:TE}{τ:L2.St}{H:Hp}{Q:VK} (Pv:Nat→List V→L2.St→Hp→Prop) (h0:Pv 0 [] τ H) (hl:∀i ys τ H,Pv i ys τ H→H d=some (.frz o (.dK kvs)))
  (hs:∀i k y p ys τ H,kvs[i]?=some (k,y)→Pv i ys τ H→H p=none→g (.ref p) τ (upd H p (.tup [kV k,y])) fun τ2 H2=>tf τ2 H2 fun z H3=>if z=true then te τ2 H3 fun y H4=>ys.length < sizeLine∧Pv (i+1) (ys++[y]) τ2 H4 else Pv (i+1) ys τ2 H3)
  (hd:∀ys τ H,Pv kvs.length ys τ H→∀p,H p=none→Q (.ref p) (upd H p (.lst ys))):ϵc (Itm d o) g tf te Q τ H:=by
 refine⟨fun i m ys τ H=>m=kvs.length-i∧i≤kvs.length∧Pv i ys τ H,⟨kvs.length,by simp,Nat.zero_le _,h0⟩,?_⟩
 rintro i m ys τ H ⟨rfl,hi,p⟩
 have q:=hl i ys τ H p
 by_cases hlt:i < kvs.length
 ·refine .inr ⟨⟨kvs,kvs[i],q,by simp[hlt]⟩,Pv (i+1),fun ys' τ' H' p'=>⟨kvs.length-(i+1),by omega,rfl,hlt,p'⟩,fun x H' y=>?_⟩
  obtain⟨p0,k,z,hp,rfl,rfl,y⟩:=y
  exact hs i k z p0 ys τ H (y kvs q) p hp
 ·have e:i=kvs.length:=by omega
  subst e
  exact .inl ⟨⟨kvs,q,Nat.le_refl _⟩,hd ys τ H p⟩
end L3
namespace L3
open PySem PySem.Spec PyProof.Rows L2 PySem.W
theorem ϟU:bootBuiltins "dict"=some (.type "dict"):=by decide +kernel
section
variable {X:Cx}
end
end L3
namespace L3
open PySem PySem.Spec PyProof.Rows L2 PySem.W
theorem ϟ9:typeLookup (.type "list") "keys"=pure none:=am_miss_of_fast (by decide +kernel)
section
variable {prog:Program}{w:World}{A:Around}{E:Value→Shared→Prop}{s:Shared}
theorem no_keys {a:Addr}{xs:Array Value}{k:Nat}{Q:Option Value→Shared→Prop} (hx:s.heap.get? a=some { cls:=.type "list",data:=.seq xs k }) (hA:A.handled=none)
  (h:∀h' tk,(∀ b o,s.heap.get? b=some o→h'.get? b=some o)→Q none { s with heap:=h',toks:=tk }):wpAny (model prog w) A (getAttr? (.ref a) "keys") Q E s:=by
 obtain⟨hp,g,d,tk,os⟩:=s
 have hT:∀tk',(⟨hp,g,d,tk',os⟩:Shared).TypeIs (.ref a) "list":=fun _=>⟨_,hx,rfl⟩
 have k1:=sub_AttributeError
 have k2:=PySem.F.slot_list_getattribute.lookup
 have k3:=PySem.F.slot_list_getattribute.bind (.ref a)
 have k4:=am_list_getattr_none
 unfold getAttr? getAttrBy? getAttrBy
 refine wpAny_bind (wpAny_mkText (wpAny_bind (wpAny_attempt ?_)))
 repeat (any_goals (first|assumption|exact hT _|((with_reducible show wpAny _ _ (call (Value.builtin "list.__getattribute__") _ _) _ _ _);refine call_meets PySem.F.slot_list_getattribute (hT _) am_entry_list_getattribute (PySem.F.args_list_getattribute_2 _ _) (meets_getattribute_miss_list a xs k #[] "keys" _ ϟ9 (by decide +kernel)) ⟨hx,hA,fun h' tk' e hx'=>?_⟩)|wp_step))
 obtain⟨t',u',he⟩:=hx'.there
 show wpAny _ _ (getattributeRaised _ _ _ _ _ _ _) _ _ _
 unfold getattributeRaised
 repeat (any_goals (first|assumption|wp_step))
 exact h _ _ hx'.keeps
end
theorem ϡW:entryFor table "dict.update.loop"=some Builtin.«dict.update.loop»:=entryFor_of_tree (by kernel_rfl)
theorem ϱv:plainId "dict.update.loop"=true:=by decide +kernel
section
variable {prog:Program}{w:World}{κ:Type} [DecidableEq κ] {knd:KeyKind prog w κ}{A:Around}{E:Value→Shared→Prop}{s:Shared}
def PairsAt (knd:KeyKind prog w κ) (h:Heap) (items:List Value) (ps:List (κ×Value)):Prop:=Paired (fun (p:κ×Value) v=>∃b key,v=.ref b∧IsTup h b #[key,p.2]∧knd.is p.1 key=true) ps items
theorem PairsAt.at {h h':Heap}{items:List Value}{ps:List (κ×Value)} (r:PairsAt knd h items ps) (k:∀b o,h.get? b=some o→o.cls=.type "tuple"→h'.get? b=some o):PairsAt knd h' items ps:=
 ϖb (fun _ _ ⟨b,key,e,⟨o,h1,h2,h3⟩,hk⟩=>⟨b,key,e,⟨o,k b o h1 h2,h2,h3⟩,hk⟩) r
def ϱ1 (kvs:List (κ×Value)) (qs:List (κ×Value)):List (κ×Value):=qs.foldl (fun a q=>stored a q.1 q.2) kvs
theorem ϟC (kvs:List (κ×Value)) (k:κ) (v:Value):(stored kvs k v).length≤kvs.length+1:=by
 unfold stored
 split<;>simp
theorem ϝv {R:Result→Shared→Prop}{l it d:Addr}{items:Array Value}{ps:List (κ×Value)} (hh:A.handled=none) (nld:l≠d) (nli:l≠it) (nid:it≠d):∀(m i:Nat) (s:Shared) (kvs:List (κ×Value)),i+m=ps.length→s.heap.IsListIter it l i→s.heap.IsList l items→PairsAt knd s.heap items.toList ps→s.heap.DictOf knd d kvs→kvs.length+m≤sizeLine →
  (∀ h' tk,h'.DictOf knd d (ϱ1 kvs (ps.drop i))→(∀ b o,b≠it→b≠d→s.heap.get? b=some o→h'.get? b=some o)→R (.ok (.ret .none)) { s with heap:=h',toks:=tk }) →
  codeAny (model prog w) A (.builtin "dict.update.loop" ⟨[.ref d,.ref it,rawInt i,.none],[]⟩) R s
 |0,i,s,kvs,hi,hit,hl,hp,hd,hz,q=>by
  have hsz:items.size=ps.length:=by rw[hp.length,Array.length_toList]
  refine codeAny_builtin ϡW ?_
  rw[Around.under_plainId ϱv]
  refine wpAny_bind (wpAny_pyNext_list_end (A:=A.in1) hh hit hl (by rw[Array.getElem?_eq_none (by omega)]) fun h' eb=>?_)
  show wpAny _ _ (Builtin.Dict.addKeywords d [] >>= fun _=>ret .none) _ _ _
  refine wpAny_bind (wpAny_pure (wpAny_pure (q h' s.toks ?_ fun b o n1 _ z=>eb b o n1 z)))
  rw[List.drop_eq_nil_of_le (by omega)]
  exact hd.extBut eb nid.symm
 |m+1,i,s,kvs,hi,hit,hl,hp,hd,hz,q=>by
  have hsz:items.size=ps.length:=by rw[hp.length,Array.length_toList]
  obtain⟨p,hpi⟩:∃p,ps[i]?=some p:=⟨ps[i]'(by omega),List.getElem?_eq_getElem (by omega)⟩
  obtain⟨x,hx,b,key,rfl,ht,hk⟩:=ϑ4 hp hpi
  rw[Array.getElem?_toList] at hx
  refine codeAny_builtin ϡW ?_
  rw[Around.under_plainId ϱv]
  refine wpAny_bind (wpAny_pyNext_list_item (A:=A.in1) hit hl hx fun h1 hit1 sb=>?_)
  show wpAny _ _ (holding [.ref b] _ >>= fun _=>again (.builtin "dict.update.loop" ⟨[.ref d,.ref it,rawInt ((i:Int)+1),.none],[]⟩)) _ _ _
  obtain⟨oi,ei,ci,di⟩:=id hit
  have isT:∀c o,s.heap.get? c=some o→o.cls=.type "tuple"→h1.get? c=some o:=fun c o z cz=>sb.extBut c o (fun y=>by rw[y,ei] at z;cases z;rw[ci] at cz;injection cz with cz;exact absurd cz (by decide)) z
  have hp1:PairsAt knd h1 items.toList ps:=hp.at isT
  obtain⟨ob,e1,c1,n1,d1⟩:=id ht
  have e1':=isT b ob e1 c1
  have hd1:h1.DictOf knd d kvs:=hd.extBut sb.extBut nid.symm
  have hl1:h1.IsList l items:=hl.extBut sb.extBut nli
  refine wpAny_bind (wpAny_holding (wpAny_bind (wpAny_tryCatch ?_)))
  unfold Builtin.Dict.pairItems
  refine wpAny_bind (wpAny_typeOf (s:={ s with heap:=h1 }) (T:="tuple") ⟨ob,e1',c1⟩ ?_)
  rw[if_pos (by decide)]
  refine wpAny_bind (wpAny_seqItems e1' d1 (wpAny_pure ?_))
  show wpAny _ _ (holding [key,p.2] (dictSet d key p.2)) _ _ _
  refine wpAny_holding (wpAny_dictSet_pairs (s:={ s with heap:=h1 }) hk hd1 (fun h2 hd2 sb2=>?_) (by omega))
  refine wpAny_pure ⟨plainId_quiet ϱv _,?_⟩
  have ez:((i:Int)+1)=((i+1:Nat):Int):=by push_cast;rfl
  rw[ez]
  obtain⟨od,_,_,ed,xd,_⟩:=id hd1
  have isT2:∀c o,h1.get? c=some o→o.cls=.type "tuple"→h2.get? c=some o:=fun c o z cz=>sb2.extBut c o (fun y=>by rw[y,ed] at z;cases z;rw[xd.1] at cz;injection cz with cz;exact absurd cz (by decide)) z
  refine ϝv hh nld nli nid m (i+1) { s with heap:=h2,toks:=s.toks+1 } _ (by omega) (hit1.at fun o e=>sb2.extBut it o nid e) (hl1.extBut sb2.extBut nld) (hp1.at isT2) hd2 (by have:=ϟC kvs p.1 p.2;omega) fun h' tk hd' kp=>q h' tk ?_ fun c o n1 n2 z=>kp c o n1 n2 (sb2.extBut c o n2 (sb.extBut c o n1 z))
  have ed2:ps.drop i=p::ps.drop (i+1):=by
   obtain⟨z1,z2⟩:=List.getElem?_eq_some_iff.mp hpi
   rw[List.drop_eq_getElem_cons z1,z2]
  rw[ed2]
  exact hd'
theorem du_call {l:Addr}{items:Array Value}{n:Nat}{ps:List (κ×Value)}{Q:Value→Shared→Prop} (hl:s.heap.get? l=some { cls:=.type "list",data:=.seq items n }) (hA:A.handled=none) (hp:PairsAt knd s.heap items.toList ps) (hz:ps.length≤sizeLine)
  (h:∀h' tk,h'.DictOf knd s.heap.objs.size (ϱ1 [] ps)→(∀ b o,s.heap.get? b=some o→h'.get? b=some o)→Q (.ref s.heap.objs.size) { s with heap:=h',toks:=tk }) :
  wpAny (model prog w) A (call (.type "dict") [.ref l]) Q E s:=by
 refine callType_codes (Q₁:=fun obj s₁=>obj=.ref s.heap.objs.size∧s₁={ s with heap:=s.heap.push { cls:=.type "dict",data:=.dict #[] } }) PySem.F.kt_called_dict (PySem.F.kt_typeCall_dict_1 _) PySem.F.entry_dict_init (kt_code_dict_new _ ⟨rfl,rfl⟩) ?_
 rintro obj s1 ⟨rfl,rfl⟩
 have new:(s.heap.push { cls:=.type "dict",data:=.dict #[] }).DictOf knd s.heap.objs.size []:=Heap.DictOf.new s.heap
 have kp0:∀b o,s.heap.get? b=some o→(s.heap.push { cls:=.type "dict",data:=.dict #[] }).get? b=some o:=fun b o e=>Heap.get?_push_of_some _ e
 have hl0:=kp0 _ _ hl
 have hp0:PairsAt knd (s.heap.push { cls:=.type "dict",data:=.dict #[] }) items.toList ps:=hp.at fun b o e _=>kp0 b o e
 have hlt:l < s.heap.objs.size:=Heap.lt_size hl
 have hgd:(s.heap.push { cls:=.type "dict",data:=.dict #[] }).objs.size=s.heap.objs.size+1:=Heap.size_push _ _
 generalize s.heap.push { cls:=.type "dict",data:=.dict #[] }=k0 at new kp0 hl0 hp0 hgd⊢
 refine⟨new.typeIs (s:={ s with heap:=k0 }),PySem.F.args_dict_init_2 _ _,?_⟩
 unfold Builtin.«dict.__init__» Builtin.Dict.selfAndRest
 refine wpAny_bind (wpAny_bind (wpAny_notOrdered_dict (s:={ s with heap:=k0 }) new.typeIs ?_))
 show wpAny _ _ (Pure.pure (s.heap.objs.size,[Value.ref l])) _ _ _
 refine wpAny_pure ?_
 show wpAny _ _ (Builtin.Dict.updateFrom "dict.__init__" s.heap.objs.size (.ref l) [] .none) _ _ _
 unfold Builtin.Dict.updateFrom
 refine wpAny_bind (wpAny_typeOf (s:={ s with heap:=k0 }) (T:="list") ⟨_,hl0,rfl⟩ ?_)
 rw[if_pos (by decide)]
 refine wpAny_bind (no_keys (s:={ s with heap:=k0 }) hl0 hA fun k1 tk1 kp1=>?_)
 rw[if_pos (show Option.isNone (none:Option Value)=true from rfl)]
 have hl1:=kp1 _ _ hl0
 have hp1:PairsAt knd k1 items.toList ps:=hp0.at fun b o e _=>kp1 b o e
 obtain⟨od,es,ep,ed,hd⟩:=new
 have new1:k1.DictOf knd s.heap.objs.size []:=⟨od,es,ep,kp1 _ _ ed,hd⟩
 have lt1:l < k1.objs.size:=Heap.lt_size hl1
 have lt2:s.heap.objs.size < k1.objs.size:=Heap.lt_size (kp1 _ _ ed)
 refine wpAny_bind (wpAny_rule (wpAny_bind (wpAny_pyIter_list (s:={ s with heap:=k1,toks:=tk1 }) (items:=items) ⟨_,hl1,rfl,_,rfl⟩ ?_)))
 have ps':∀b o,k1.get? b=some o→(k1.push { cls:=.type "list_iterator",data:=.fields #[.ref l,.int 0 0] }).get? b=some o:=fun b o e=>Heap.get?_push_of_some _ e
 refine wpAny_pure ⟨plainId_quiet ϱv _,?_⟩
 refine ϝv (A:=A.in1) (items:=items) (ps:=ps) hA (Nat.ne_of_lt hlt) (Nat.ne_of_lt lt1) (Nat.ne_of_gt lt2) ps.length 0 _ [] (by omega) ⟨_,Heap.get?_push_size _ rfl,rfl,rfl⟩ ⟨_,ps' _ _ hl1,rfl,_,rfl⟩ (hp1.at fun b o e _=>ps' b o e) (new1.push _) (by simpa using hz) fun h' tk hd' kp=>⟨rfl,h h' tk hd' fun b o e=>?_⟩
 have e1:=kp1 _ _ (kp0 _ _ e)
 exact kp b o (Nat.ne_of_lt (Heap.lt_size e1)) (Nat.ne_of_lt (Heap.lt_size e)) (ps' _ _ e1)
end
def ϕq {κ:Type} [DecidableEq κ] (kvs:List (κ×V)) (qs:List (κ×V)):List (κ×V):=qs.foldl (fun a q=>putK a q.1 q.2) kvs
theorem kv_all {κ:Type} [DecidableEq κ] {ps:List (κ×V)}{qs:List (κ×Value)} (r:KV ps qs):∀{kvs:List (κ×V)}{vs:List (κ×Value)},KV kvs vs→KV (ϕq kvs ps) (ϱ1 vs qs):=by
 induction r with
 |nil=>intro kvs vs h;exact h
 |@cons p q ps qs hq _ ih=>
  intro kvs vs h
  obtain⟨e,rv⟩:=hq
  refine ih ?_
  show KV (putK kvs p.1 p.2) (stored vs q.1 q.2)
  rw[← e]
  exact h.put p.1 rv
theorem ϝ9 {κ:Type} [DecidableEq κ]:∀(ps kvs:List (κ×V)),(ϕq kvs ps).length≤kvs.length+ps.length
 |[],kvs=>Nat.le_refl _
 |p::ps,kvs=>by
  have:=ϝ9 ps (putK kvs p.1 p.2)
  have h2:(putK kvs p.1 p.2).length≤kvs.length+1:=by unfold putK;split<;>simp
  rw[List.length_cons]
  show(ϕq (putK kvs p.1 p.2) ps).length≤_
  omega
section
variable {X:Cx}
end
end L3
namespace L3
open PySem PySem.Spec PyProof.Rows L2 PySem.W
section
variable {X:Cx}
def ϟ3 (K:PySem.W.Frag):List V→Hp→VK→Prop:=fun xs H Q=>∃l rs,∃ps:List (Key×V),xs=[.ref l]∧H l=some (.lst rs)∧Paired (fun (p:Key×V) v=>∃b,v=.ref b∧SqT K H b [kV p.1,p.2]) ps rs∧∀d,H d=none→Q (.ref d) (upd H d (.dK (ϕq [] ps)))
theorem ϛg {pins:List (Addr×Obj)}{σ:List (Option V)}{H:Hp}{s:Shared} (I:Inv X pins σ H s) {ps:List (Key×V)}{rs:List V} (hp:Paired (fun (p:Key×V) v=>∃b,v=.ref b∧SqT X.K H b [kV p.1,p.2]) ps rs) :
  ∀{its:List Value},Vals rs its→∃qs,KV ps qs∧PairsAt (ϖv X.prog X.w) s.heap its qs:=by
 induction hp with
 |nil=>intro its r;cases r;exact⟨[],.nil,.nil⟩
 |@cons p v ps rs h _ ih=>
  intro its r
  cases r with
  |cons r1 r2=>
   obtain⟨qs,k1,k2⟩:=ih r2
   obtain⟨b,rfl,hb⟩:=h
   cases r1
   obtain⟨us,ru,ht,_⟩:=I.tuple hb
   cases ru with
   |cons u1 u2=>
    cases u2 with
    |cons u2 u3=>
     cases u3
     exact⟨(p.1,_)::qs,.cons ⟨rfl,u2⟩ k1,.cons ⟨b,_,rfl,ht,ϲS u1⟩ k2⟩
theorem ϱD (hc:X.calm=true):CallR X (.type "dict") (ϟ3 X.K):=by
 intro pins s σ H xs us Q I r h
 obtain⟨l,rs,ps,rfl,hl,hp,q⟩:=h
 obtain⟨u,rfl,ru⟩:=ϱs r
 cases ru
 obtain⟨z,its,n,rv,hn,e⟩:=I.lstM hl
 obtain⟨qs,k1,k2⟩:=ϛg I hp rv
 have l1:ps.length=qs.length:=Paired.length k1
 have l2:ps.length=rs.length:=Paired.length hp
 refine du_call (knd:=ϖv X.prog X.w) e (I.ok.hd hc) (by simpa using k2) (by omega) fun h' tk hd kp=>?_
 have nm:(s.heap.objs.size == sysModules)=false:=by
  have:=I.big
  exact beq_eq_false_iff_ne.mpr (Nat.ne_of_gt this)
 have hlen:=ϝ9 ps []
 rw[List.length_nil] at hlen
 exact⟨.ref s.heap.objs.size,_,I.laid (a:=s.heap.objs.size) (o:=.dK (ϕq [] ps)) (t':=tk) kp (Nat.le_refl _) ⟨by omega,nm,_,kv_all k1 .nil,hd⟩,rfl,q _ (I.hok.fresh (Nat.le_refl _))⟩
end
section
variable {X:Cx}{pins:List (Addr×Obj)}{σ:List (Option V)}{H:Hp}{s:Shared}{a:Addr}
theorem raw_tf {fz:Obj}{kvs:List (List Key×V)} (I:Inv X pins σ H s) (e:H a=some (.frz fz (.dT kvs))):kvs.length≤sizeLine∧(a == sysModules)=false∧∃es p,RawD a es p s.heap∧es.size=kvs.length ∧
  ∃bs:List Addr,Paired (fun (kv:List Key×V) b=>H b=some (.tup (kv.1.map kV))) kvs bs∧∀(i:Nat) (x:DictEntry) (b:Addr),es[i]?=some x→bs[i]?=some b→x.key=.ref b:=by
 obtain⟨z,lo,xs,r,o,es,p,h1,h2,h3,h4,h9⟩:=(show ObjOk X.prog X.w H s.heap a (.dT kvs) from (show ObjOk X.prog X.w H s.heap a (.frz fz (.dT kvs)) from I.hok a _ e).2)
 have hsz:es.size=kvs.length:=by rw[Paired.length r,← Array.length_toList,h4,List.length_map]
 refine⟨z,lo,es,p,⟨o,h1,h2,h3⟩,hsz,xs.map (·.2.1),?_,fun i x b ex eb=>?_⟩
 ·clear h4 h9 hsz z e
  induction r with
  |nil=>exact .nil
  |cons q _ ih=>exact .cons q.2.1 ih
 ·rw[← Array.getElem?_toList,h4,List.getElem?_map] at ex
  rw[List.getElem?_map] at eb
  cases hx:xs[i]? with
  |none=>rw[hx] at eb;cases eb
  |some q=>
   rw[hx] at ex eb
   cases ex
   cases eb
   rfl
def rListF:List V→Hp→VK→Prop:=fun xs H Q=>∃a fz kvs,xs=[.ref a]∧H a=some (.frz fz (.dT kvs))∧∀(bs:List Addr) l,Paired (fun (kv:List Key×V) b=>H b=some (.tup (kv.1.map kV))) kvs bs→H l=none→Q (.ref l) (upd H l (.lst (bs.map V.ref)))
theorem ϲ9 (hc:X.calm=true):CallR X (.type "list") rListF:=by
 intro pins s σ H xs us Q I r h
 obtain⟨a,fz,kvs,rfl,e,q⟩:=h
 obtain⟨u,rfl,ru⟩:=ϱs r
 cases ru
 have fin:∀(ys:List V) (es:Array DictEntry) (h':Heap) (tk:Nat) (acc:Array Value) (c:Nat),ys.length≤sizeLine→es.size=ys.length→(∀ (i:Nat) (x:DictEntry) (y:V),es[i]?=some x→ys[i]?=some y→RelV y x.key) →
   (∀ b o,s.heap.get? b=some o→h'.get? b=some o)→h'.get? s.heap.objs.size=some { cls:=.type "list",dict:=none,data:=.seq acc c,slots:=#[] }→ItemsOf (fun i v=>∃e,es[i]?=some e∧v=e.key) acc es.size →
   (∀ l,H l=none→Q (.ref l) (upd H l (.lst ys)))→EP X pins σ Q (.ref s.heap.objs.size) { s with heap:=h',toks:=tk }:=fun ys es h' tk acc c z hs hr kp e it q=>by
  refine⟨.ref s.heap.objs.size,_,I.laid (t':=tk) (o:=.lst ys) kp (Nat.le_refl _) ⟨z,acc.toList,c,ϝr (by rw[Array.length_toList,it.1,hs]) fun i u y e1 e2=>?_,?_⟩,rfl,q _ (I.hok.fresh (Nat.le_refl _))⟩
  ·obtain⟨x,ex,rfl⟩:=it.2 i u (by rw[← Array.getElem?_toList];exact e1)
   exact hr i x y ex e2
  ·rw[Array.toArray_toList];exact e
 obtain⟨z,lo,es,p,rr,hs,bs,pb,hr⟩:=raw_tf I e
 have hb:=Paired.length pb
 refine kdl_call (ϝb (p:=p) lo) (I.ok.hd hc) rr (by rw[hs];exact z) fun h' tk acc c kp e' it=>fin _ es h' tk acc c (by rw[List.length_map,← hb];exact z) (by rw[List.length_map,← hb];exact hs) (fun i x y ex ey=>?_) kp e' it fun l hl=>q bs l pb hl
 rw[List.getElem?_map] at ey
 cases hk:bs[i]? with
 |none=>rw[hk] at ey;cases ey
 |some b=>rw[hk] at ey;cases ey;exact hr i x b ex hk
end
end L3
namespace L3
open PySem PySem.Spec PyProof.Rows L2 PySem.W
def Itkt (d:Addr) (o:Obj):It:=
 ⟨fun i H=>∃kvs kv,H d=some (.frz o (.dT kvs))∧kvs[i]?=some kv,fun i H x H'=>H'=H∧∀kvs,H d=some (.frz o (.dT kvs))→∃kv b,kvs[i]?=some kv∧x=.ref b∧H b=some (.tup (kv.1.map kV)),fun i H=>∃kvs,H d=some (.frz o (.dT kvs))∧kvs.length≤i⟩
theorem ϟJ {P:Program}{w:World}{K:PySem.W.Frag}{tg:Expr}{d it:Addr}{o:Obj}{es:Array DictEntry}{ep:Nat} (ho:o.data=.dict es ep) :
  Turn P w K tg (Itkt d o) [it] it (fun i h=>h.IsKeyIter it d i es.size ep) where
 mem:=by simp
 obj:=by
  rintro i h ⟨q,e1,c,d⟩ b hb
  have hb:b=it:=by simpa using hb
  subst hb
  exact⟨q,e1,fun v z=>by rw[d] at z;cases z⟩
 keep:=by
  rintro i h h' ⟨q,e1,r⟩ k
  exact⟨q,k it (by simp) q e1,r⟩
 item:=by
  intro X hP hw hK hc i pins s σ H E I hf st hg
  subst hP hw hK
  obtain⟨kvs,kv,e,hx⟩:=hg
  obtain⟨g1,z,lo,xs,r,o',es',ep',h1,h2,h3,h4,h5⟩:=(show ObjOk X.prog X.w H s.heap d (.frz o (.dT kvs)) from I.hok d _ e)
  have eo:o'=o:=by rw[h1] at g1;injection g1
  subst eo
  rw[h3] at ho
  injection ho with e1 e2
  subst e1;subst e2
  obtain⟨q,hq,k1,k2,rv⟩:=ϑ4 r hx
  obtain⟨f0,f1,f2,f3,f4,f5⟩:=hf it (by simp)
  have hen:es'[i]?=some (entryOfKey (tupleKind (ϖv X.prog X.w)) q):=by rw[← Array.getElem?_toList,h4,List.getElem?_map,hq];rfl
  refine ϝB st ⟨o',h1,h2,h3⟩ hen fun h' st' sb=>?_
  have I1:Inv X pins σ H { s with heap:=h' }:=I.turned (t':=s.toks) (fun b u hb e=>(sb.2 b hb).trans e) f0 f1 f3 f4 f5
  obtain⟨q2,e2,c2,d2⟩:=id st'
  exact⟨.ref q.2.1,rfl,ϛt (s:={ s with heap:=h' }) e2 c2 d2 (by decide) ⟨.ref q.2.1,H,I1,rfl,⟨rfl,fun ws hw=>⟨kv,q.2.1,by rw[ϟa hw e];exact hx,rfl,k2⟩⟩,st',fun b hb=>(hf b hb).1⟩⟩
 done:=by
  intro X hP hw hK hc i pins s σ H E I hf st hg
  subst hP hw hK
  obtain⟨kvs,e,hx⟩:=hg
  obtain⟨g1,z,lo,xs,r,o',es',ep',h1,h2,h3,h4,h5⟩:=(show ObjOk X.prog X.w H s.heap d (.frz o (.dT kvs)) from I.hok d _ e)
  have eo:o'=o:=by rw[h1] at g1;injection g1
  subst eo
  rw[h3] at ho
  injection ho with e1 e2
  subst e1;subst e2
  have hsz:es'.size=kvs.length:=by rw[Paired.length r,← Array.length_toList,h4,List.length_map]
  obtain⟨f0,f1,f2,f3,f4,f5⟩:=hf it (by simp)
  exact ϛ_ (I.ok.hd hc) st ⟨o',h1,h2,h3⟩ (Array.getElem?_eq_none (by omega)) fun h' eb=>⟨rfl,I.turned (t':=s.toks) (fun b u hb q=>eb b u hb q) f0 f1 f3 f4 f5⟩
 self:=fun _ _ _ _ _ st h=>wpAny_pyIter_keyiter st h
section
variable {X:Cx}{tg:Expr}
def iTkeys (tl:TE):TI:=fun σ H R=>tl σ H fun x H1=>∃d kvs,x=.ref d∧H1 d=some (.dT kvs)∧∀o,R (Itkt d o) (upd H1 d (.frz o (.dT kvs)))
theorem ϟe {l:Expr}{tl:TE} (hl:PE X l tl):PI X tg l (iTkeys tl):=by
 intro pins s σ H R I h
 refine thn (hl pins s σ H _ I h) fun v s1 ⟨x,H1,I1,r1,q1⟩=>?_
 obtain⟨d,kvs,e,hd,q⟩:=q1
 subst e
 cases r1
 obtain⟨o,h0,I2⟩:=hold_t I1 hd
 obtain⟨z,lo,xs,r,o',es,ep,h1,h2,h3,h4,h5⟩:=(show ObjOk X.prog X.w H1 s1.heap d (.dT kvs) from I1.hok d _ hd)
 have eo:o'=o:=by rw[h1] at h0;injection h0
 subst eo
 refine ϝk lo ⟨o',h1,h2,h3⟩ ?_
 refine⟨s1.heap.objs.size,[s1.heap.objs.size],_,_,_,rfl,I2.kept (t':=s1.toks) fun b u e=>Heap.get?_push_of_some _ e,ϟJ h3,⟨_,Heap.get?_push_size _ rfl,rfl,rfl⟩,fun b hb=>?_,q o'⟩
 have e:b=s1.heap.objs.size:=by simpa using hb
 subst e
 exact I2.fpOk (Nat.le_refl _) (I2.hok.fresh (Nat.le_refl _))
end
theorem ϝL {d:Addr}{o:Obj}{kvs:List (List Key×V)}{g:TG}{tb:TS}{D:Ends}{σ:L2.St}{H:Hp} (Pv:Nat→L2.St→Hp→Prop) (h0:Pv 0 σ H) (hl:∀i σ H,i≤kvs.length→Pv i σ H→H d=some (.frz o (.dT kvs)))
  (hs:∀i k y b σ H,kvs[i]?=some (k,y)→Pv i σ H→H b=some (.tup (k.map kV))→g (.ref b) σ H fun σ2 H2=>tb { D with nx:=Pv (i+1),ct:=Pv (i+1),bk:=D.nx } σ2 H2) (hd:∀σ H,Pv kvs.length σ H→D.nx σ H) :
  ∃W:Nat→Nat→L2.St→Hp→Prop,(∃ m,W 0 m σ H)∧∀i m σ H,W i m σ H →
   ((Itkt d o).stop i H∧D.nx σ H)∨((Itkt d o).go i H∧∃N:L2.St→Hp→Prop,(∀ σ' H',N σ' H'→∃m',m' < m∧W (i+1) m' σ' H')∧∀x H',(Itkt d o).yld i H x H'→g x σ H' fun σ2 H2=>tb { D with nx:=N,ct:=N,bk:=D.nx } σ2 H2):=by
 refine⟨fun i m σ H=>m=kvs.length-i∧i≤kvs.length∧Pv i σ H,⟨kvs.length,rfl,Nat.zero_le _,h0⟩,?_⟩
 rintro i m σ H ⟨rfl,hi,p⟩
 have q:=hl i σ H hi p
 by_cases hlt:i < kvs.length
 ·refine .inr ⟨⟨kvs,kvs[i],q,List.getElem?_eq_getElem hlt⟩,Pv (i+1),fun σ' H' p'=>⟨kvs.length-(i+1),by omega,rfl,hlt,p'⟩,fun x H' y=>?_⟩
  obtain⟨rfl,y⟩:=y
  obtain⟨⟨k,z⟩,b,hk,rfl,hb⟩:=y kvs q
  exact hs i k z b σ _ hk p hb
 ·have e:i=kvs.length:=by omega
  subst e
  exact .inl ⟨⟨kvs,q,Nat.le_refl _⟩,hd σ H p⟩
section
variable {prog:Program}{w:World}{A:Around}{E:Value→Shared→Prop}{s:Shared}{d:Addr}{es:Array DictEntry}{p:Nat}
end
section
variable {X:Cx}
end
end L3
namespace L3
open PySem PySem.Spec PyProof.Rows L2 PySem.W
section
variable {prog:Program}{w:World}{A:Around}{E:Value→Shared→Prop}{s:Shared}
end
section
variable {X:Cx}
end
end L3
namespace L3
open PySem PySem.Spec PyProof.Rows L2 PySem.W
abbrev PI2:=Int×Int
def lt2 (a b:PI2):Bool:=decide (a.1 < b.1∨(a.1=b.1∧a.2 < b.2))
def le2 (a b:PI2):Prop:=lt2 b a=false
def pairOf? (h:Heap):Value→Option PI2
 |.ref a=>match h.get? a with
  |some o=>match o.data with
   |.seq xs _=>match xs.toList with
    |[.int x _,.int y _]=>some (x,y)
    |_=>none
   |_=>none
  |none=>none
 |_=>none
def PairAt (h:Heap) (v:Value) (p:PI2):Prop:=∃a o n t u,v=.ref a∧h.get? a=some o∧o.cls=.type "tuple"∧o.data=.seq #[.int p.1 t,.int p.2 u] n
theorem PairAt.get {h:Heap}{v:Value}{p:PI2} (e:PairAt h v p):pairOf? h v=some p:=by
 obtain⟨a,o,n,t,u,rfl,h1,_,h2⟩:=e
 unfold pairOf?
 simp only[h1,h2]
open Classical in
@[reducible] noncomputable def ϑ1 (h:Heap):KeyKind where
 α:=PI2
 blt:=lt2
 irrefl a:=by unfold lt2;rw[decide_eq_false];rintro (h|⟨_,h⟩)<;>omega
 trans a b c h1 h2:=by
  unfold lt2 at *
  have h1:=of_decide_eq_true h1
  have h2:=of_decide_eq_true h2
  refine decide_eq_true ?_
  omega
 negTrans a b c h:=by
  unfold lt2 at *
  have h:=of_decide_eq_true h
  rw[decide_eq_true_eq,decide_eq_true_eq]
  omega
 total a b h1 h2:=by
  unfold lt2 at *
  have h1:=of_decide_eq_false h1
  have h2:=of_decide_eq_false h2
  obtain⟨a1,a2⟩:=a
  obtain⟨b1,b2⟩:=b
  simp only at h1 h2
  have e1:a1=b1:=by omega
  have e2:a2=b2:=by omega
  rw[e1,e2]
 keyOf:=fun v=>if ∃p,PairAt h v p then pairOf? h v else none
 dflt:=(0,0)
open Classical in
theorem PairAt.key {h:Heap}{v:Value}{p:PI2} (e:PairAt h v p):(ϑ1 h).keyOf v=some p:=by
 show(if ∃p,PairAt h v p then pairOf? h v else none)=some p
 rw[if_pos ⟨p,e⟩];exact e.get
open Classical in
theorem ϟg {h:Heap}{v:Value}{p:PI2} (e:(ϑ1 h).keyOf v=some p):PairAt h v p:=by
 have e':(if ∃p,PairAt h v p then pairOf? h v else none)=some p:=e
 by_cases c:∃p,PairAt h v p
 ·rw[if_pos c] at e'
  obtain⟨q,hq⟩:=c
  rw[hq.get] at e'
  cases e'
  exact hq
 ·rw[if_neg c] at e';cases e'
section
variable {prog:Program}{w:World}{A:Around}{E:Value→Shared→Prop}{s:Shared}
theorem ϛC {h:Heap} (hk:∀b o,h.get? b=some o→o.cls=.type "tuple"→s.heap.get? b=some o):KLt prog w A s (ϑ1 h) (tuples' true):=by
 intro E x y a b Q hx hy q
 obtain⟨ax,ox,nx,tx,ux,rfl,x1,x2,x3⟩:=ϟg hx
 obtain⟨ay,oy,ny,ty,uy,rfl,y1,y2,y3⟩:=ϟg hy
 refine kat_lt (hk _ _ x1 x2) x3 (hk _ _ y1 y2) y3 ?_
 show KatLex prog w A true _ Q [(Value.int a.1 tx,Value.int b.1 ty),(Value.int a.2 ux,Value.int b.2 uy)] 0 s
 refine kat_cons (wpAny_eqBool_int ?_)
 by_cases c1:a.1=b.1
 ·rw[show(a.1 == b.1)=true by rw[c1];exact beq_self_eq_true _]
  refine kat_yes (kat_cons (wpAny_eqBool_int ?_))
  by_cases c2:a.2=b.2
  ·rw[show(a.2 == b.2)=true by rw[c2];exact beq_self_eq_true _]
   refine kat_yes (kat_nil ?_)
   have e:(ϑ1 h).blt a b=false:=by
    show lt2 a b=false
    unfold lt2;exact decide_eq_false (by omega)
   rw[e] at q
   exact q
  ·rw[show(a.2 == b.2)=false from beq_false_of_ne c2]
   refine kat_no (kat_one _ _ (lt_int ?_))
   have e:(ϑ1 h).blt a b=decide (a.2 < b.2):=by
    show lt2 a b=_
    unfold lt2;exact decide_eq_decide.mpr (by omega)
   rw[e] at q
   exact q
 ·rw[show(a.1 == b.1)=false from beq_false_of_ne c1]
  refine kat_no (oneLt_int ?_)
  have e:(ϑ1 h).blt a b=decide (a.1 < b.1):=by
   show lt2 a b=_
   unfold lt2;exact decide_eq_decide.mpr (by omega)
  rw[e] at q
  exact q
theorem ϝy {h:Heap}:∀{ps:List PI2}{vs:List Value},Paired (fun p v=>PairAt h v p) ps vs→∃fs,KatTups h vs fs∧fs.length=vs.length∧∀v∈fs,∃i t,v=.int i t
 |[],_,e=>by cases e;exact⟨[],.nil,rfl,fun _ z=>nomatch z⟩
 |p::ps,_,e=>by
  cases e with
  |cons e1 e2=>
   obtain⟨fs,h1,h2,h3⟩:=ϝy e2
   obtain⟨a,o,n,t,u,rfl,x1,x2,x3⟩:=e1
   refine⟨.int p.1 t::fs,.cons x1 x2 x3 rfl h1,by simp[h2],fun v hv=>?_⟩
   rcases List.mem_cons.mp hv with rfl|hv
   ·exact⟨_,_,rfl⟩
   ·exact h3 v hv
theorem ϰr {α:Type}{R R':α→Value→Prop} (hr:∀a v,R a v→R' a v):∀{xs:List α}{vs:List Value},Paired R xs vs→Paired R' xs vs
 |[],_,e=>by cases e;exact .nil
 |_::_,_,e=>by cases e with|cons e1 e2=>exact .cons (hr _ _ e1) (ϰr hr e2)
theorem ϟS {ps:List PI2}{vs:List Value}{Q:SortKind→Shared→Prop} (e:Paired (fun p v=>PairAt s.heap v p) ps vs) (h2:2≤vs.length) (q:Q (tuples' true) s):wpAny (model prog w) A (keyKind' vs.toArray) Q E s:=by
 obtain⟨fs,h1,hl,h3⟩:=ϝy e
 refine kat_kind (T:=.type "int") h1 (by omega) (fun v hv=>?_) rfl q
 obtain⟨i,t,rfl⟩:=h3 v hv
 exact Looks.of_pure rfl
theorem ϵy {h:Heap}:∀{ps:List PI2}{vs:List Value},Paired (fun p v=>PairAt h v p) ps vs→ps=vs.map (fun v=>(pairOf? h v).getD (0,0))
 |[],_,e=>by cases e;rfl
 |p::ps,_,e=>by
  cases e with
  |cons e1 e2=>rw[List.map_cons,e1.get,← ϵy e2];rfl
theorem ϱF {h:Heap}:∀{vs:List Value},(∀ v∈vs,∃p,PairAt h v p)→Paired (fun p v=>PairAt h v p) (vs.map (fun v=>(pairOf? h v).getD (0,0))) vs
 |[],_=>.nil
 |v::vs,e=>by
  obtain⟨p,hp⟩:=e v (List.mem_cons_self ..)
  rw[List.map_cons,hp.get]
  exact .cons hp (ϱF fun u hu=>e u (List.mem_cons_of_mem _ hu))
theorem ϱd {h:Heap}:∀{ps:List PI2}{vs:List Value},Paired (fun p v=>PairAt h v p) ps vs→∀v∈vs,∃p,PairAt h v p
 |[],_,e,v,hv=>by cases e;cases hv
 |p::ps,_,e,v,hv=>by
  cases e with
  |cons e1 e2=>
   rcases List.mem_cons.mp hv with rfl|hv
   ·exact⟨_,e1⟩
   ·exact ϱd e2 v hv
theorem ϟY {h:Heap}{vs:List Value}{ps:List PI2} (hS:Paired (fun p v=>PairAt h v p) ps vs) {xs:Array Keyed} (hp:xs.Perm (pairsOf vs)) (hs:xs.toList.Pairwise (Rk (ϑ1 h))) :
  ∃ps',Paired (fun p v=>PairAt h v p) ps' (xs.map (·.2)).toList∧(xs.map (·.2)).toList.Perm vs∧ps'.Perm ps∧ps'.Pairwise le2:=by
 have hl:xs.toList.Perm (vs.zip vs):=by rw[← pairsOf_toList];exact Array.perm_iff_toList_perm.mp hp
 have hmem:∀p,p∈xs.toList→p.1=p.2∧p.1∈vs:=fun p hp'=>mem_zip_self (hl.mem_iff.mp hp')
 have hall:=ϱd hS
 have e2:((xs.map (·.2)).toList).Perm vs:=by
  rw[Array.toList_map]
  have:=hl.map (·.2)
  rwa [List.map_snd_zip (Nat.le_refl _)] at this
 refine⟨_,ϱF fun v hv=>hall v (e2.mem_iff.mp hv),e2,?_,?_⟩
 ·rw[ϵy hS];exact e2.map _
 ·rw[Array.toList_map,List.map_map]
  refine List.pairwise_map.mpr (List.Pairwise.imp_of_mem ?_ hs)
  intro p q hp' hq' r
  obtain⟨a,ha⟩:=hall _ (hmem p hp').2
  obtain⟨b,hb⟩:=hall _ (hmem q hq').2
  show le2 ((pairOf? h p.2).getD (0,0)) ((pairOf? h q.2).getD (0,0))
  rw[← (hmem p hp').1,← (hmem q hq').1,ha.get,hb.get]
  have r':lt2 (ky (ϑ1 h) q) (ky (ϑ1 h) p)=false:=r
  unfold ky at r'
  rw[ha.key,hb.key] at r'
  exact r'
end
def PrA (H:Hp) (p:PI2) (v:V):Prop:=∃b,v=.ref b∧H b=some (.tup [.int p.1,.int p.2])
section
variable {X:Cx}
def refV:Value→V
 |.ref b=>.ref b
 |_=>.non
theorem ϡ2 {P:Program}{w:World}{H:Hp}{h:Heap} (ok:HOk P w H h):∀{ps:List PI2}{ys:List V}{vs:List Value},Paired (PrA H) ps ys→Vals ys vs→Paired (fun p v=>PairAt h v p∧PrA H p (refV v)∧RelV (refV v) v) ps vs
 |[],_,_,e,r=>by cases e;cases r;exact .nil
 |p::ps,_,_,e,r=>by
  cases e with
  |cons e1 e2=>
   cases r with
   |cons r1 r2=>
    refine .cons ?_ (ϡ2 ok e2 r2)
    obtain⟨b,rfl,hb⟩:=e1
    have hb0:=hb
    cases r1
    obtain⟨_,its,rv,o,h1,h2,n,h3⟩:=(show ObjOk P w H h b (.tup [.int p.1,.int p.2]) from ok b _ hb)
    cases rv with
    |cons q1 q2=>
     cases q2 with
     |cons q3 q4=>
      cases q4
      obtain⟨t,rfl⟩:=q1
      obtain⟨u,rfl⟩:=q3
      exact⟨⟨b,o,n,t,u,rfl,h1,h2,h3⟩,⟨b,rfl,hb0⟩,rfl⟩
theorem ϲg {α:Type}{R:α→Value→Prop}:∀{xs:List α}{vs:List Value},Paired R xs vs→∀v∈vs,∃a,R a v
 |[],_,e,v,hv=>by cases e;cases hv
 |p::ps,_,e,v,hv=>by
  cases e with
  |cons e1 e2=>
   rcases List.mem_cons.mp hv with rfl|hv
   ·exact⟨_,e1⟩
   ·exact ϲg e2 v hv
theorem ϲt {H:Hp}{h:Heap}:∀{ps:List PI2}{vs:List Value},Paired (fun p v=>PairAt h v p) ps vs→(∀ v∈vs,∃p,PairAt h v p∧PrA H p (refV v)∧RelV (refV v) v)→Paired (PrA H) ps (vs.map refV)∧Vals (vs.map refV) vs
 |[],_,e,_=>by cases e;exact⟨.nil,.nil⟩
 |p::ps,_,e,hh=>by
  cases e with
  |cons e1 e2=>
   obtain⟨i1,i2⟩:=ϲt e2 fun v hv=>hh v (List.mem_cons_of_mem _ hv)
   obtain⟨q,j1,j2,j3⟩:=hh _ (List.mem_cons_self ..)
   have e:p=q:=by have:=e1.get;rw[j1.get] at this;injection this with this;exact this.symm
   exact⟨.cons (e▸j2) i1,.cons j3 i2⟩
end
theorem ϟv {d:Addr}{o:Obj}{kvs:List (List Key×V)}{g:TG}{tf:TT}{te:TE}{τ:L2.St}{H:Hp}{Q:VK} (Pv:Nat→List V→L2.St→Hp→Prop) (h0:Pv 0 [] τ H) (hl:∀i ys τ H,Pv i ys τ H→H d=some (.frz o (.dT kvs)))
  (hs:∀i k y b ys τ H,kvs[i]?=some (k,y)→Pv i ys τ H→H b=some (.tup (k.map kV))→g (.ref b) τ H fun τ2 H2=>tf τ2 H2 fun z H3=>if z=true then te τ2 H3 fun y H4=>ys.length < sizeLine∧Pv (i+1) (ys++[y]) τ2 H4 else Pv (i+1) ys τ2 H3)
  (hd:∀ys τ H,Pv kvs.length ys τ H→∀p,H p=none→Q (.ref p) (upd H p (.lst ys))):ϵc (Itkt d o) g tf te Q τ H:=by
 refine⟨fun i m ys τ H=>m=kvs.length-i∧i≤kvs.length∧Pv i ys τ H,⟨kvs.length,by simp,Nat.zero_le _,h0⟩,?_⟩
 rintro i m ys τ H ⟨rfl,hi,p⟩
 have q:=hl i ys τ H p
 by_cases hlt:i < kvs.length
 ·refine .inr ⟨⟨kvs,kvs[i],q,by simp[hlt]⟩,Pv (i+1),fun ys' τ' H' p'=>⟨kvs.length-(i+1),by omega,rfl,hlt,p'⟩,fun x H' y=>?_⟩
  obtain⟨rfl,y⟩:=y
  obtain⟨⟨k,z⟩,b,hk,rfl,hb⟩:=y kvs q
  exact hs i k z b ys τ _ hk p hb
 ·have e:i=kvs.length:=by omega
  subst e
  exact .inl ⟨⟨kvs,q,Nat.le_refl _⟩,hd ys τ H p⟩
end L3
namespace L3
open PySem PySem.Spec PyProof.Rows L2 PySem.W
section
variable {kd:SortKind}{κ:KeyKind}{prog:Program}{w:World}{A:Around}{E:Value→Shared→Prop}{s:Shared}
def SD (κ:KeyKind) (a₀:Array Keyed) (st:SortSt):Prop:=(arrOf st).Perm a₀∧failedOf st=none∧pendingOf st=#[(0,a₀.size,0)]∧SF κ (arrOf st) 0 a₀.size
theorem SB.done {a₀:Array Keyed}{F:Nat→Option Keyed}{st:SortSt} (hB:SB kd a₀ #[] F 0 st) (hs:SF κ (arrOf st) 0 a₀.size):SD κ a₀ (setPending st ((pendingOf st).push (0,a₀.size,0))):=
 ⟨hB.perm,hB.failed,by show(pendingOf st).push _=_;rw[hB.pend];rfl,hs⟩
theorem ϝ4 {a₀:Array Keyed}{st:SortSt}{Q:Unit→SortSt→Prop} (hO:KLt prog w A s κ kd) (h0:∀p,p∈a₀.toList→Ko κ p) (hB:SB kd a₀ #[] (fun i=>a₀[i]?) 0 st) (h2:1≤a₀.size) (h64:a₀.size < 64)
  (h:∀st',(arrOf st').Perm a₀→failedOf st'=none→(arrOf st').toList.Pairwise (Rk κ)→Q () st'):wpS (model prog w) A E s sortRuns' Q st:=by
 rw[sortRuns'_eq]
 refine wpS_bind (wpS_get ?_)
 dsimp only
 have hmr:minRun' a₀.size a₀.size 0=a₀.size:=by
  obtain⟨f,hf⟩:∃f,a₀.size=f+1:=⟨a₀.size-1,by omega⟩
  have:minRun' (f+1) a₀.size 0=a₀.size:=by rw[minRun'_succ,if_pos h64];rfl
  rwa [← hf] at this
 simp only[hB.size,hmr]
 refine wpS_bind (wpS_mono (wpS_forRange
  (I:=fun x c st'=>(x=0∧c=(none,0)∧SB kd a₀ #[] (fun i=>a₀[i]?) 0 st')∨(1≤x∧c=(none,a₀.size)∧SD κ a₀ st'))
  (Q:=fun c st'=>c=(none,a₀.size)∧SD κ a₀ st') ?step ?fin (.inl ⟨rfl,rfl,hB⟩)) ?post)
 case fin=>
  rintro c st' (⟨hx,_,_⟩|⟨_,hc,hD⟩)
  ·omega
  ·exact⟨hc,hD⟩
 case step=>
  rintro x c st' _ hx (⟨rfl,rfl,hB'⟩|⟨hx1,rfl,hD⟩)
  ·dsimp only
   rw[if_neg (by omega)]
   simp only[Nat.sub_zero,Nat.min_self,Nat.zero_add]
   refine wpS_bind (ϛu hO h0 (lo:=0) (nrem:=a₀.size) (by omega) (by omega) hB' fun m st2 hB2 hm1 hm2 hs2=>?_)
   dsimp only
   by_cases hlt:m < a₀.size
   ·rw[if_pos hlt]
    refine wpS_bind (wpS_lift (wpAny_rule ⟨rfl,?_⟩))
    refine wpS_bind (ϛI hO h0 (lo:=0) (n:=a₀.size) (by omega) hm2 hB2 hs2 fun st3 hB3 hs3=>?_)
    simp only[Bool.not_true,Bool.false_eq_true,if_false]
    refine wpS_bind (wpS_get ?_)
    have hb:(pendingOf st3).back?=none:=by rw[hB3.pend];rfl
    rw[hb]
    dsimp only
    exact wpS_bind (wpS_modify (wpS_pure (.inr ⟨by omega,rfl,hB3.done hs3⟩)))
   ·rw[if_neg hlt]
    have hm:m=a₀.size:=by omega
    subst hm
    refine wpS_bind (wpS_get ?_)
    have hb:(pendingOf st2).back?=none:=by rw[hB2.pend];rfl
    rw[hb]
    dsimp only
    exact wpS_bind (wpS_modify (wpS_pure (.inr ⟨by omega,rfl,hB2.done hs2⟩)))
  ·dsimp only
   rw[if_pos (Nat.le_refl _)]
   exact wpS_pure ⟨rfl,hD⟩
 case post=>
  rintro c st' ⟨rfl,hD⟩
  dsimp only
  refine wpS_bind (wpS_mono (wpS_forRange (I:=fun _ c st''=>st''=st'∧c=(none,())) (Q:=fun c st''=>st''=st'∧c=(none,())) ?_ (fun _ _ hh=>hh) ⟨rfl,rfl⟩) ?_)
  ·rintro x c st'' _ _ ⟨rfl,rfl⟩
   refine wpS_bind (wpS_get ?_)
   rw[if_pos (by rw[hD.2.2.1];exact Nat.le_refl 1)]
   exact wpS_pure ⟨rfl,rfl⟩
  ·rintro c st'' ⟨rfl,rfl⟩
   refine wpS_pure (h _ hD.1 hD.2.1 (List.pairwise_iff_getElem.mpr fun i j hi hj hij=>?_))
   have hsz:=hD.1.size_eq
   rw[Array.length_toList] at hi hj
   have:=hD.2.2.2 i j (Nat.zero_le _) (by omega) (by omega)
   rw[ϵI (p:=(arrOf st'').toList[i]) (by rw[← Array.getElem?_toList,List.getElem?_eq_getElem]),ϵI (p:=(arrOf st'').toList[j]) (by rw[← Array.getElem?_toList,List.getElem?_eq_getElem])] at this
   exact this
theorem ϟF {κ:KeyKind}{kd:SortKind}{a:Addr}{vs:List Value}{n:Nat}{P:Fin→Shared→Prop} (ho:s.heap.get? a=some (seqObj "list" vs.toArray n)) (h0:KeysOf κ (pairsOf vs))
  (hO:∀h',(∀ b o,b≠a→s.heap.get? b=some o→h'.get? b=some o)→KLt prog w A { s with heap:=h' } κ kd)
  (hkk:∀h',(∀ b o,b≠a→s.heap.get? b=some o→h'.get? b=some o)→2≤vs.length→∀{Q:SortKind→Shared→Prop},Q kd { s with heap:=h' }→wpAny (model prog w) A (keyKind' vs.toArray) Q E { s with heap:=h' }) (h64:vs.length < 64) (hz:vs.length≤sizeLine)
  (h:∀st':SortSt,(arrOf st').Perm (pairsOf vs)→(arrOf st').toList.Pairwise (Rk κ)→P (.done (.ret .none)) { s with heap:=sortedHeap s.heap a vs ((arrOf st').map (·.2)) }) :
  wpAny (model prog w) A (Builtin.«list.sort» ⟨[.ref a],[]⟩) P E s:=by
 rw[list_sort_plain]
 have ha:a < s.heap.objs.size:=Heap.lt_size ho
 obtain⟨e1,ho1⟩:∃e1,(s.heap.update a (Obj.mapSeq fun _=>#[])).get? a=some (seqObj "list" #[] e1):=⟨_,get?_update_seq ho (fun _=>#[])⟩
 have ho6:(((s.heap.update a (Obj.mapSeq fun _=>#[])).push (seqObj "tuple" vs.toArray 0)).push (seqObj "list" #[] 0)).get? a=some (seqObj "list" #[] e1):=
  Heap.get?_push_of_some _ (Heap.get?_push_of_some _ ho1)
 have hsz:vs.toArray.size=vs.length:=List.size_toArray
 refine wpAny_bind (listItems_at ho rfl (wpAny_bind (listUpdate_at ho rfl (wpAny_bind (seqEpoch_at ho1 rfl (wpAny_bind (wpAny_newTuple (wpAny_bind (wpAny_newList (wpAny_holding ?_))) ?_)))))))
 ·show wpAny (model prog w) A _ P E { s with heap:=((s.heap.update a (Obj.mapSeq fun _=>#[])).push (seqObj "tuple" vs.toArray 0)).push (seqObj "list" #[] 0) }
  dsimp only
  by_cases h2:vs.toArray.size < 2
  ·rw[if_pos h2,if_pos h2]
   refine wpAny_bind (wpAny_pure ?_)
   rw[StateT.run_pure]
   refine wpAny_bind (wpAny_pure (wpAny_bind (seqEpoch_at ho6 rfl (wpAny_bind (listUpdate_at ho6 rfl ?_ (hsz2:=?_))))))
   ·simp only[bne_self_eq_false,Bool.false_eq_true,if_false]
    refine wpAny_pure (h (SortSt.mk' general' (vs.toArray.zip vs.toArray) #[] 7 none) (Array.Perm.refl _) ?_)
    show(pairsOf vs).toList.Pairwise (Rk κ)
    rw[List.pairwise_iff_getElem]
    intro i j hi hj hij
    rw[Array.length_toList,pairsOf_size] at hj
    omega
   ·rw[Array.size_map];show(pairsOf vs).size≤_;rw[pairsOf_size];exact Nat.le_succ_of_le hz
  ·rw[if_neg h2,if_neg h2]
   have h2':2≤vs.length:=by rw[hsz] at h2;omega
   have kp:∀b o,b≠a→s.heap.get? b=some o→(((s.heap.update a (Obj.mapSeq fun _=>#[])).push (seqObj "tuple" vs.toArray 0)).push (seqObj "list" #[] 0)).get? b=some o:=fun b o hb e=>
    Heap.get?_push_of_some _ (Heap.get?_push_of_some _ (by rw[Heap.get?_update_ne _ _ _ _ hb];exact e))
   refine wpAny_bind (hkk _ kp h2' (wpAny_bind (wpAny_mono (ϝ4 (κ:=κ) (kd:=kd) (hO _ kp) (a₀:=pairsOf vs) (st:=SortSt.mk' kd (vs.toArray.zip vs.toArray) #[] 7 none)
    (Q:=fun _ st'=>(arrOf st').Perm (pairsOf vs)∧failedOf st'=none∧(arrOf st').toList.Pairwise (Rk κ))
    h0 ⟨Array.Perm.refl _,rfl,rfl,rfl,fun _ _=>rfl⟩ (by rw[pairsOf_size];omega) (by rw[pairsOf_size];exact h64) fun st' a1 a2 a3=>⟨a1,a2,a3⟩) ?_ fun _ _ e=>e)))
   rintro⟨⟨⟩,st'⟩ s' ⟨rfl,hp,hf,hs⟩
   refine wpAny_bind (seqEpoch_at ho6 rfl (wpAny_bind (listUpdate_at ho6 rfl ?_ (hsz2:=?_))))
   ·rw[hf]
    simp only[bne_self_eq_false,Bool.false_eq_true,if_false]
    exact wpAny_pure (h st' hp hs)
   ·exact Nat.le_trans (Nat.le_of_eq ((Array.size_map ..).trans (hp.size_eq.trans (pairsOf_size _)))) (Nat.le_succ_of_le hz)
 ·exact hz
theorem ϛR {l:Addr}{vs:List Value}{ps:List PI2}{Q:Value→Shared→Prop} (hl:s.heap.IsList l vs.toArray) (hS:Paired (fun p v=>PairAt s.heap v p) ps vs) (h64:vs.length < 64) (hz:vs.length≤sizeLine)
  (h:∀(out:Array Value) (ps':List PI2),Paired (fun p v=>PairAt s.heap v p) ps' out.toList→out.toList.Perm vs→ps'.Perm ps→ps'.Pairwise le2→Q (.ref (s.heap.objs.size+1)) { s with heap:=sortedAll s.heap vs out }) :
  wpAny (model prog w) A (call (.builtin "sorted") [.ref l]) Q E s:=by
 refine Calls.call_function_entry kind_sorted plain_sorted entry_sorted (args_sorted1 _) ?_
 unfold Builtin.«sorted»
 refine wpAny_bind (m:=checkCount "sorted" 1 1 _) (wpAny_pure ?_)
 refine wpAny_bind (collect_list hl ?_)
 refine wpAny_bind (wpAny_newList ?_ hz)
 have hsz:((s.heap.push (seqObj "list" #[] 0)).update s.heap.objs.size (Obj.mapSeq (·++vs.toArray))).objs.size=s.heap.objs.size+1:=by
  rw[Heap.size_update,size_push']
 have hoL:(((s.heap.push (seqObj "list" #[] 0)).update s.heap.objs.size (Obj.mapSeq (·++vs.toArray))).push (seqObj "list" vs.toArray 0)).get? (s.heap.objs.size+1)=some (seqObj "list" vs.toArray 0):=by
  rw[← hsz];exact Heap.get?_push_size _ rfl
 have kp0:∀b o,s.heap.get? b=some o→(((s.heap.push (seqObj "list" #[] 0)).update s.heap.objs.size (Obj.mapSeq (·++vs.toArray))).push (seqObj "list" vs.toArray 0)).get? b=some o:=fun b o e=>by
  refine Heap.get?_push_of_some _ ?_
  rw[Heap.get?_update_ne _ _ _ _ (Nat.ne_of_lt (Heap.lt_size e))]
  exact Heap.get?_push_of_some _ e
 show wpAny _ _ _ _ _ { s with heap:=((s.heap.push (seqObj "list" #[] 0)).update s.heap.objs.size (Obj.mapSeq (·++vs.toArray))).push (seqObj "list" vs.toArray 0) }
 rw[hsz]
 have up:∀{h':Heap},(∀ b o,b≠s.heap.objs.size+1→(((s.heap.push (seqObj "list" #[] 0)).update s.heap.objs.size (Obj.mapSeq (·++vs.toArray))).push (seqObj "list" vs.toArray 0)).get? b=some o→h'.get? b=some o)→∀b o,s.heap.get? b=some o→h'.get? b=some o:=fun k b o e=>
  k b o (Nat.ne_of_lt (Nat.lt_succ_of_lt (Heap.lt_size e))) (kp0 b o e)
 refine wpAny_bind (wpAny_holding (wpAny_call_entry slot_list_sort ⟨_,hoL,rfl⟩ entry_list_sort (ϟF (κ:=ϑ1 s.heap) (kd:=tuples' true) hoL (fun p hp=>?_) (fun h' k=>ϛC fun b o e _=>up k b o e) (fun h' k h2 Q q=>?_) h64 hz fun st' a1 a2=>⟨_,rfl,?_⟩) (args_list_sort _)))
 ·obtain⟨q,hq⟩:=ϱd hS p.1 (mem_zip_self (by rw[← pairsOf_toList];exact hp)).2
  exact⟨q,hq.key⟩
 ·refine ϟS (ps:=ps) (ϰr (fun p v ⟨a,o,n,t,u,e,e1,e2,e3⟩=>⟨a,o,n,t,u,e,up k a o e1,e2,e3⟩) hS) h2 q
 ·obtain⟨ps',b1,b0,b2,b3⟩:=ϟY hS a1 a2
  exact wpAny_pure ⟨_,rfl,h _ ps' b1 b0 b2 b3⟩
end
section
variable {X:Cx}
def ϝZ (K:PySem.W.Frag):List V→Hp→VK→Prop:=fun xs H Q=>∃(a:Addr) (ps:List PI2) (ys:List V),xs=[.ref a]∧SqL K H a ys∧ys.length < 64∧Paired (PrA H) ps ys∧∀(l:Addr) (ps':List PI2) (ys':List V),ps'.Perm ps→ps'.Pairwise le2→Paired (PrA H) ps' ys'→H l=none→Q (.ref l) (upd H l (.lst ys'))
theorem ϵf:CallR X (.builtin "sorted") (ϝZ X.K):=by
 intro pins s σ H xs us Q I r h
 obtain⟨a,ps,ys,rfl,hS,h64,hP,q⟩:=h
 obtain⟨u,rfl,ru⟩:=ϱs r
 cases ru
 obtain⟨its,rv,p,hz⟩:=I.list hS
 have hl:its.length=ys.length:=rv.length.symm
 have hin:=ϡ2 I.hok hP rv
 refine ϛR (vs:=its) (ps:=ps) p.isList (ϰr (fun _ _ h=>h.1) hin) (by rw[hl];exact h64) (by rw[hl];exact hz) fun out ps' a1 a0 a2 a3=>?_
 obtain⟨c,hc⟩:=sortedAll_at s.heap its out
 have hn:H (s.heap.objs.size+1)=none:=I.hok.fresh (Nat.le_succ _)
 obtain⟨o1,o2⟩:=ϲt (H:=H) a1 fun v hv=>ϲg hin v (a0.mem_iff.mp hv)
 exact⟨.ref (s.heap.objs.size+1),_,I.laid (t':=s.toks) (o:=.lst (out.toList.map refV)) (fun b o e=>sortedAll_old e) (Nat.le_succ _) ⟨by rw[List.length_map,a0.length_eq,hl];exact hz,out.toList,c,o2,by rw[Array.toArray_toList];exact hc⟩,rfl,q _ ps' _ a2 a3 o1 hn⟩
end
end L3
namespace L3
open PySem PySem.Spec PyProof.Rows L2
def tyN:D→String
 |.non=>"NoneType"
 |.bl _=>"bool"
 |.int _=>"int"
 |.str _=>"str"
 |.tup _=>"tuple"
 |.lst _=>"list"
def isT (d:D) (T:String):Bool:=match d with
 |.non=>T == "NoneType"
 |.bl _=>T == "bool" || T == "int"
 |.int _=>T == "int"
 |.str _=>T == "str"
 |.tup _=>T == "tuple"
 |.lst _=>T == "list"
theorem kit_isT {K:PySem.W.Frag} (d:D) {T:String} (h:T="tuple"∨T="int"∨T="bool"∨T="str"∨T="list"):PySem.W.kitOne K (.type (tyN d)) (.type T)=some (isT d T):=by
 rcases h with rfl|rfl|rfl|rfl|rfl<;>cases d<;>rfl
section
variable {X:Cx}
theorem ϕ6:CallR X (.builtin "isinstance") (fun xs H Q=>∃x d T,xs=[x,.ty T]∧Rep X.K H d x∧(T="tuple"∨T="int"∨T="bool"∨T="str"∨T="list")∧Q (.bl (isT d T)) H):=by
 intro pins s σ H xs us Q I r h
 obtain⟨x,d,T,rfl,rep,hT,q⟩:=h
 obtain⟨u,w',rfl,rx,rt⟩:=ϟy r
 cases rt
 have k:=kit_isT (K:=X.K) d hT
 have fin:∀tk,EP X pins σ Q (.bool (isT d T)) { s with toks:=tk }:=fun tk=>⟨.bl (isT d T),H,I.tok _,rfl,q⟩
 cases d with
 |non=>unfold Rep at rep;subst rep;exact ϕ9 I rx .non k fin
 |bl b=>unfold Rep at rep;subst rep;exact ϕ9 I rx (.bl b) k fin
 |int i=>unfold Rep at rep;subst rep;exact ϕ9 I rx (.int i) k fin
 |str y=>unfold Rep at rep;subst rep;exact ϕ9 I rx (.str y) k fin
 |tup ds=>
  unfold Rep at rep
  obtain⟨a,ys,rfl,hq,_⟩:=rep
  cases (show u=Value.ref a from rx)
  obtain⟨its,_,p,_⟩:=I.tuple hq
  obtain⟨o,h1,h2,_⟩:=p
  exact PySem.W.kia_one PySem.W.kitx_tuple I.kIn ⟨o,h1,h2⟩ k (fun z=>nomatch z) fin
 |lst ds=>
  unfold Rep at rep
  obtain⟨a,ys,rfl,hq,_⟩:=rep
  cases (show u=Value.ref a from rx)
  obtain⟨its,_,p,_⟩:=I.list hq
  obtain⟨o,h1,h2,_⟩:=p.isList
  exact PySem.W.kia_one PySem.W.kitx_list I.kIn ⟨o,h1,h2⟩ k (fun z=>nomatch z) fin
end
end L3
namespace L3
open PySem PySem.Spec PyProof.Rows L2
section
variable {X:Cx}
end
end L3
namespace L3
open PySem PySem.Spec PyProof.Rows L2 PySem.W
section
variable {X:Cx}
theorem ϱC {ns:List Int}:∀{its:List Value},Vals (ns.map V.int) its→∀(m:Nat) (u:Value),its[m]?=some u→∃k t,u=.int k t∧ns[m]?=some k:=by
 induction ns with
 |nil=>intro its r m u e;cases r;simp at e
 |cons n ns ih=>
  intro its r m u e
  cases r with
  |cons r1 r2=>
   obtain⟨t,rfl⟩:=r1
   cases m with
   |zero=>simp at e;exact⟨n,t,e.symm,rfl⟩
   |succ m=>exact ih r2 m u (by simpa using e)
end
end L3
namespace L3
open PySem PySem.Spec PyProof.Rows L2 PySem.W
section
variable {prog:Program}{w:World}{A:Around}{E:Value→Shared→Prop}{s:Shared}
structure Gv (prog:Program) (w:World) (it:Addr) (fp:List Addr) (xs:Array Value) (St:Nat→Heap→Prop):Prop where
 keep:∀i h h',St i h→(∀ b∈fp,∀o,h.get? b=some o→h'.get? b=some o)→St i h'
 item:∀i x (s:Shared) (A:Around) (Q:Value→Shared→Prop) (E:Value→Shared→Prop),St i s.heap→xs[i]?=some x→(∀ h',St (i+1) h'→Heap.SameBut it s.heap h'→Q x { s with heap:=h' })→wpAny (model prog w) A (Builtin.SmallTypes.nextOf (.ref it)) Q E s
 done:∀i (s:Shared) (A:Around) (Q:Value→Shared→Prop) (E:Value→Shared→Prop),A.handled=none→St i s.heap→xs[i]?=none→(∀ h' e,Heap.ExtBut it s.heap h'→(∃ o,h'.get? e=some o∧o.cls=.type "StopIteration")→E (.ref e) { s with heap:=h' })→wpAny (model prog w) A (Builtin.SmallTypes.nextOf (.ref it)) Q E s
theorem ϝX {it l:Addr}{xs:Array Value} (n:l≠it):Gv prog w it [it,l] xs (fun i h=>h.IsListIter it l i∧h.IsList l xs) where
 keep:=fun i h h' ⟨⟨o,e,r⟩,⟨u,f,q⟩⟩ k=>⟨⟨o,k it (by simp) o e,r⟩,⟨u,k l (by simp) u f,q⟩⟩
 item:=fun i x s A Q E st hx q=>wpAny_nextOf_list_item st.1 st.2 hx fun h' st' sb=>q h' ⟨st',st.2.extBut sb.extBut n⟩ sb
 done:=fun i s A Q E hh st hx q=>wpAny_nextOf_list_end hh st.1 st.2 hx fun h' e eb he=>q h' e eb he
theorem ϛ8 {it t:Addr}{xs:Array Value} (n:t≠it):Gv prog w it [it,t] xs (fun i h=>h.IsTupleIter it t i∧h.IsTuple t xs) where
 keep:=fun i h h' ⟨⟨o,e,r⟩,⟨u,f,q⟩⟩ k=>⟨⟨o,k it (by simp) o e,r⟩,⟨u,k t (by simp) u f,q⟩⟩
 item:=fun i x s A Q E st hx q=>by
  obtain⟨a,ea,ca,da⟩:=id st.1
  obtain⟨b,eb,cb,nb,db⟩:=id st.2
  unfold Builtin.SmallTypes.nextOf
  refine wpAny_bind (wpAny_callSpecial?_slot (name:=Str.ofString "__next__") st.1.typeIs PySem.F.slot_tuple_iterator_next (wpAny_call_entry PySem.F.slot_tuple_iterator_next st.1.typeIs PySem.F.entry_tuple_iterator_next ?_ (PySem.F.args_tuple_iterator_next_1 _)))
  refine wpAny_bind (wpAny_pure (wpAny_bind (wpAny_field ea da (x:=.ref t) rfl ?_)))
  show wpAny _ _ (if (Value.ref t == Value.none)=true then _ else _) _ _ _
  rw[if_neg (by intro z;cases z)]
  refine wpAny_bind (wpAny_field ea da (x:=.int i 0) rfl ?_)
  refine wpAny_bind (wpAny_seqItems eb db ?_)
  simp only[Int.toNat_natCast,hx]
  have sb:Heap.SameBut it s.heap (s.heap.update it (Obj.mapFields (·.setIfInBounds 1 (rawInt ((i:Int)+1))))):=Heap.SameBut.update ..
  exact wpAny_bind (wpAny_setField ea da (by simp) (wpAny_pure ⟨x,rfl,wpAny_pure (q _ ⟨⟨_,Heap.get?_update_self _ ea (Obj.isFreed_of_fields (Obj.data_mapFields da _)),(Obj.cls_mapFields ..).trans ca,by rw[Obj.data_mapFields da];simp[rawInt]⟩,st.2.extBut sb.extBut n⟩ sb)⟩))
 done:=fun i s A Q E hh st hx q=>by
  obtain⟨a,ea,ca,da⟩:=id st.1
  obtain⟨b,eb,cb,nb,db⟩:=id st.2
  unfold Builtin.SmallTypes.nextOf
  refine wpAny_bind (wpAny_callSpecial?_slot (name:=Str.ofString "__next__") st.1.typeIs PySem.F.slot_tuple_iterator_next (wpAny_call_entry PySem.F.slot_tuple_iterator_next st.1.typeIs PySem.F.entry_tuple_iterator_next ?_ (PySem.F.args_tuple_iterator_next_1 _)))
  refine wpAny_bind (wpAny_pure (wpAny_bind (wpAny_field ea da (x:=.ref t) rfl ?_)))
  show wpAny _ _ (if (Value.ref t == Value.none)=true then _ else _) _ _ _
  rw[if_neg (by intro z;cases z)]
  refine wpAny_bind (wpAny_field ea da (x:=.int i 0) rfl ?_)
  refine wpAny_bind (wpAny_seqItems eb db ?_)
  simp only[Int.toNat_natCast,hx]
  refine wpAny_bind (wpAny_rule (wpAny_bind (wpAny_setField ea da (by simp) ?_)))
  show wpAny _ _ (newExc (.type "StopIteration") ([]:List Value) >>= _) _ _ _
  refine wpAny_bind ?_
  simp only[newExc,newTuple]
  refine wpAny_bind (wpAny_newObj_type (wpAny_bind (m:=firstArgMember _ _) (wpAny_of_eq (a:=.none) (by first|rfl|(simp only[firstArgMember];rfl)) (wpAny_newObj_type ?_ (by size_fits)))) (by size_fits))
  simp only[raiseNew]
  refine wpAny_bind (wpAny_handled ?_)
  rw[show A.in1.handled=none from hh]
  exact wpAny_bind (wpAny_pure (wpAny_throw (q _ _ (((Heap.SameBut.update ..).extBut.push _).push _) ⟨_,Heap.get?_push_size _ rfl,rfl⟩)))
structure ZpA (z TI TO i1 i2:Addr) (f1 f2:List Addr):Prop where
 TIz:TI≠z
 TOz:TO≠z
 TIO:TI≠TO
 TI1:TI≠i1
 TI2:TI≠i2
 m1:i1∈f1
 m2:i2∈f2
 a1:∀b∈f1,b≠z∧b≠TO∧b≠i2
 a2:∀b∈f2,b≠z∧b≠TO∧b≠i1
variable {z TI TO i1 i2:Addr}{f1 f2:List Addr}{xs ys:Array Value}{S1 S2:Nat→Heap→Prop}
theorem zp_item {k:Nat}{x y a b:Value}{Q:Option Value→Shared→Prop} (G1:Gv prog w i1 f1 xs S1) (G2:Gv prog w i2 f2 ys S2) (D:ZpA z TI TO i1 i2 f1 f2)
  (hz:IsZip s.heap z TI TO .none) (hI:IsPair s.heap TI (.ref i1) (.ref i2)) (hO:IsPair s.heap TO a b) (s1:S1 k s.heap) (s2:S2 k s.heap) (hx:xs[k]?=some x) (hy:ys[k]?=some y)
  (q:∀h',IsZip h' z TI TO (rawInt s.heap.objs.size)→IsPair h' TO x y→S1 (k+1) h'→S2 (k+1) h'→IsPair h' s.heap.objs.size x y→(∀ c o,c≠z→c≠TO→c≠i1→c≠i2→s.heap.get? c=some o→h'.get? c=some o)→Q (some (.ref s.heap.objs.size)) { s with heap:=h' }) :
  wpAny (model prog w) A (pyNext (.ref z)) Q E s:=by
 have ty:s.TypeIs (.ref z) "zip":=⟨_,hz,rfl⟩
 unfold pyNext
 refine wpAny_bind (wpAny_attempt (wpAny_callSpecial?_slot (name:=Str.ofString "__next__") ty PySem.F.slot_zip_next (wpAny_call_entry PySem.F.slot_zip_next ty PySem.F.entry_zip_next ?_ (PySem.F.args_zip_next_1 _))))
 unfold Builtin.«zip.__next__»
 refine wpAny_bind (wpAny_pure ?_)
 show wpAny _ _ (field (Value.ref z) 2 >>= fun _=>_) _ _ _
 refine wpAny_bind (wpAny_field hz rfl (x:=.bool false) rfl ?_)
 show wpAny _ _ (field (Value.ref z) 3 >>= fun _=>_) _ _ _
 refine wpAny_bind (wpAny_field hz rfl (x:=.ref TI) rfl (wpAny_bind (wpAny_seqItems hI rfl ?_)))
 show wpAny _ _ (Builtin.SmallTypes.ownedTupleIsFree (Value.ref z) >>= fun _=>_) _ _ _
 unfold Builtin.SmallTypes.ownedTupleIsFree
 refine wpAny_bind (wpAny_bind (wpAny_field hz rfl (x:=.none) rfl (wpAny_pure ?_)))
 simp only[if_true]
 refine wpAny_bind (wpAny_rule (wpAny_bind (wpAny_field hz rfl (x:=.ref TO) rfl ?_)))
 refine wpAny_bind (wpAny_setField_rec hz (by simp) fun k1 z1 u1=>?_)
 replace z1:IsZip k1 z TI TO .ellipsis:=z1
 replace u1:Heap.SameBut z s.heap k1:=u1
 refine wpAny_bind ?_
 simp only[List.zipIdx_cons,List.zipIdx_nil,List.forIn_cons,List.forIn_nil]
 have p1:S1 k k1:=G1.keep _ _ _ s1 fun b hb o e=>u1.extBut b o (D.a1 b hb).1 e
 have p2:S2 k k1:=G2.keep _ _ _ s2 fun b hb o e=>u1.extBut b o (D.a2 b hb).1 e
 have i1z:=(D.a1 _ D.m1).1
 have i1O:=(D.a1 _ D.m1).2.1
 have i12:=(D.a1 _ D.m1).2.2
 have i2z:=(D.a2 _ D.m2).1
 have i2O:=(D.a2 _ D.m2).2.1
 refine wpAny_bind (wpAny_bind (wpAny_onRaise ?_))
 show wpAny _ _ (Builtin.SmallTypes.nextOf (Value.ref i1) >>= fun _=>_) _ _ _
 refine wpAny_bind (G1.item k x { s with heap:=k1 } _ _ _ p1 hx fun k2 q1 u2=>wpAny_pure ?_)
 replace u2:Heap.SameBut i1 k1 k2:=u2
 have t2:IsPair k2 TO a b:=u2.extBut _ _ i1O.symm (u1.extBut _ _ D.TOz hO)
 have q2:S2 k k2:=G2.keep _ _ _ p2 fun b hb o e=>u2.extBut b o (D.a2 b hb).2.2 e
 refine wpAny_bind (wpAny_seqItems t2 rfl (wpAny_bind (wpAny_updateSeq_pair t2 fun k3 t3 u3=>wpAny_bind (wpAny_letGo (wpAny_pure ?_)))))
 replace t3:IsPair k3 TO x b:=t3
 replace u3:Heap.SameBut TO k2 k3:=u3
 have r1:S1 (k+1) k3:=G1.keep _ _ _ q1 fun b hb o e=>u3.extBut b o (D.a1 b hb).2.1 e
 have r2:S2 k k3:=G2.keep _ _ _ q2 fun b hb o e=>u3.extBut b o (D.a2 b hb).2.1 e
 refine wpAny_bind (wpAny_bind (wpAny_onRaise ?_))
 show wpAny _ _ (Builtin.SmallTypes.nextOf (Value.ref i2) >>= fun _=>_) _ _ _
 refine wpAny_bind (G2.item k y { s with heap:=k3 } _ _ _ r2 hy fun k4 v2 u4=>wpAny_pure ?_)
 replace u4:Heap.SameBut i2 k3 k4:=u4
 have t4:IsPair k4 TO x b:=u4.extBut _ _ i2O.symm t3
 have v1:S1 (k+1) k4:=G1.keep _ _ _ r1 fun b hb o e=>u4.extBut b o (D.a1 b hb).2.2 e
 refine wpAny_bind (wpAny_seqItems t4 rfl (wpAny_bind (wpAny_updateSeq_pair t4 fun k5 t5 u5=>wpAny_bind (wpAny_letGo (wpAny_pure (wpAny_pure ?_))))))
 replace t5:IsPair k5 TO x y:=t5
 replace u5:Heap.SameBut TO k4 k5:=u5
 have w1:S1 (k+1) k5:=G1.keep _ _ _ v1 fun b hb o e=>u5.extBut b o (D.a1 b hb).2.1 e
 have w2:S2 (k+1) k5:=G2.keep _ _ _ v2 fun b hb o e=>u5.extBut b o (D.a2 b hb).2.1 e
 have z5:IsZip k5 z TI TO .ellipsis:=u5.extBut _ _ D.TOz.symm (u4.extBut _ _ i2z.symm (u3.extBut _ _ D.TOz.symm (u2.extBut _ _ i1z.symm z1)))
 have sz:k5.objs.size=s.heap.objs.size:=by rw[u5.1,u4.1,u3.1,u2.1,u1.1]
 have g5:∀c o,c≠z→c≠TO→c≠i1→c≠i2→s.heap.get? c=some o→k5.get? c=some o:=fun c o c1 c2 c3 c4 e=>u5.extBut _ _ c2 (u4.extBut _ _ c4 (u3.extBut _ _ c2 (u2.extBut _ _ c3 (u1.extBut _ _ c1 e))))
 refine wpAny_bind (wpAny_seqItems t5 rfl (wpAny_bind (wpAny_newTuple ?_)))
 show wpAny _ _ (Builtin.SmallTypes.ownedTupleHandOut (Value.ref z) (Value.ref k5.objs.size) >>= fun _=>_) _ _ _
 unfold Builtin.SmallTypes.ownedTupleHandOut
 have z6:IsZip (k5.push { cls:=.type "tuple",data:=.seq #[x,y] }) z TI TO .ellipsis:=Heap.get?_push_of_some _ z5
 refine wpAny_bind (wpAny_bind (wpAny_setField_rec z6 (by simp) fun k7 z7 u7=>?_))
 replace z7:IsZip k7 z TI TO (rawInt k5.objs.size):=z7
 refine wpAny_setField_rec z7 (by simp) fun k8 z8 u8=>?_
 replace z8:IsZip k8 z TI TO (rawInt k5.objs.size):=z8
 have up:∀c o,c≠z→k5.get? c=some o→k8.get? c=some o:=fun c o c1 e=>u8.extBut _ _ c1 (u7.extBut _ _ c1 (Heap.get?_push_of_some _ e))
 have lt:z < k5.objs.size:=Heap.lt_size z5
 have t8:IsPair k8 k5.objs.size x y:=u8.extBut _ _ (Nat.ne_of_gt lt) (u7.extBut _ _ (Nat.ne_of_gt lt) (Heap.get?_push_size _ rfl))
 rw[sz] at z8 t8
 refine wpAny_pure ⟨_,rfl,wpAny_pure ?_⟩
 show Q (some (.ref k5.objs.size)) _
 rw[sz]
 exact q k8 z8 (up _ _ D.TOz t5) (G1.keep _ _ _ w1 fun b hb o e=>up b o (D.a1 b hb).1 e) (G2.keep _ _ _ w2 fun b hb o e=>up b o (D.a2 b hb).1 e) t8 fun c o c1 c2 c3 c4 e=>up c o c1 (g5 c o c1 c2 c3 c4 e)
theorem zp_end {k:Nat}{a b:Value}{Q:Option Value→Shared→Prop} (hh:A.handled=none) (G1:Gv prog w i1 f1 xs S1) (G2:Gv prog w i2 f2 ys S2) (D:ZpA z TI TO i1 i2 f1 f2)
  (hz:IsZip s.heap z TI TO .none) (hI:IsPair s.heap TI (.ref i1) (.ref i2)) (hO:IsPair s.heap TO a b) (s1:S1 k s.heap) (s2:S2 k s.heap) (hx:xs[k]?=none)
  (q:∀h',(∀ c o,c≠z→c≠TO→c≠i1→c≠i2→s.heap.get? c=some o→h'.get? c=some o)→Q none { s with heap:=h' }) :
  wpAny (model prog w) A (pyNext (.ref z)) Q E s:=by
 have ty:s.TypeIs (.ref z) "zip":=⟨_,hz,rfl⟩
 unfold pyNext
 refine wpAny_bind (wpAny_attempt (wpAny_callSpecial?_slot (name:=Str.ofString "__next__") ty PySem.F.slot_zip_next (wpAny_call_entry PySem.F.slot_zip_next ty PySem.F.entry_zip_next ?_ (PySem.F.args_zip_next_1 _))))
 unfold Builtin.«zip.__next__»
 refine wpAny_bind (wpAny_pure ?_)
 show wpAny _ _ (field (Value.ref z) 2 >>= fun _=>_) _ _ _
 refine wpAny_bind (wpAny_field hz rfl (x:=.bool false) rfl ?_)
 show wpAny _ _ (field (Value.ref z) 3 >>= fun _=>_) _ _ _
 refine wpAny_bind (wpAny_field hz rfl (x:=.ref TI) rfl (wpAny_bind (wpAny_seqItems hI rfl ?_)))
 show wpAny _ _ (Builtin.SmallTypes.ownedTupleIsFree (Value.ref z) >>= fun _=>_) _ _ _
 unfold Builtin.SmallTypes.ownedTupleIsFree
 refine wpAny_bind (wpAny_bind (wpAny_field hz rfl (x:=.none) rfl (wpAny_pure ?_)))
 simp only[if_true]
 refine wpAny_bind (wpAny_rule (wpAny_bind (wpAny_field hz rfl (x:=.ref TO) rfl ?_)))
 refine wpAny_bind (wpAny_setField_rec hz (by simp) fun k1 z1 u1=>?_)
 replace z1:IsZip k1 z TI TO .ellipsis:=z1
 replace u1:Heap.SameBut z s.heap k1:=u1
 refine wpAny_bind ?_
 simp only[List.zipIdx_cons,List.zipIdx_nil,List.forIn_cons,List.forIn_nil]
 have p1:S1 k k1:=G1.keep _ _ _ s1 fun b hb o e=>u1.extBut b o (D.a1 b hb).1 e
 refine wpAny_bind (wpAny_bind (wpAny_onRaise ?_))
 show wpAny _ _ (Builtin.SmallTypes.nextOf (Value.ref i1) >>= fun _=>_) _ _ _
 refine wpAny_bind (G1.done k { s with heap:=k1 } _ _ _ hh p1 hx fun k2 e u2 he=>?_)
 obtain⟨oe,h1,h2⟩:=he
 replace u2:Heap.ExtBut i1 k1 k2:=u2
 have z2:IsZip k2 z TI TO .ellipsis:=u2 _ _ (D.a1 _ D.m1).1.symm z1
 have nez:e≠z:=fun c=>by subst c;rw[z2] at h1;cases h1;simp at h2
 refine wpAny_setField_rec z2 (by simp) fun k3 z3 u3=>?_
 refine wpAny_bind (wpAny_isInstance (b:=true) (T:="StopIteration") ⟨oe,u3.extBut _ _ nez h1,h2⟩ isSubtype_stop ?_)
 exact wpAny_pure (q _ fun c o c1 _ c3 _ w=>u3.extBut _ _ c1 (u2 _ _ c3 (u1.extBut _ _ c1 w)))
end
section
variable {X:Cx}{pins:List (Addr×Obj)}{σ:List (Option V)}{H:Hp}{s:Shared}{h':Heap}
theorem ϝV {t':Nat}{ch:List Addr} (I:Inv X pins σ H s) (k:∀b o,b∉ch→s.heap.get? b=some o→h'.get? b=some o) (f:∀b∈ch,FpOk X pins H b):Inv X pins σ H { s with heap:=h',toks:=t' }:=by
 have ne:∀b u,H b=some u→b∉ch:=fun b u q z=>by rw[(f b z).1] at q;cases q
 refine I.step (g':=s.gens) (d':=s.drawn) (ch:=ch) (fun b hb=>⟨(f b hb).2.2.2.1,(f b hb).2.1,(f b hb).2.2.2.2.1,(f b hb).2.2.2.2.2⟩) (fun b o _ _ hc q _=>k b o hc q) (fun b o _ _ hc q _=>⟨o.slots,k b o hc q⟩) (fun _ _ _ _ n=>n)
  (fun b o hc q=>⟨o,k b o hc q⟩) (fun _ _ q=>q) (fun _ _ _ q=>q) (fun b ps q=>⟨#[],by rw[q];simp⟩) ?_ ?_ I.bare
 ·rintro m ⟨o,es,ep,ho,r⟩
  exact⟨o,es,ep,k _ o (fun z=>(f _ z).2.1 rfl) ho,r⟩
 ·intro b u q
  refine(I.hok b u q).stay (fun c v hc z=>k c v ?_ z) (fun _ z=>z) fun _ _ z=>z
  rcases hc with y|y
  ·rw[y];exact ne b u q
  ·exact ne c _ y
end
def Itz (K:PySem.W.Frag) (t l:Addr):It:=
 ⟨fun i H=>∃xs ys x y,SqT K H t xs∧SqL K H l ys∧xs[i]?=some x∧ys[i]?=some y,fun i H v H'=>∃p x y,H p=none∧v=.ref p∧H'=upd H p (.tup [x,y])∧(∀ xs,SqT K H t xs→xs[i]?=some x)∧∀ys,SqL K H l ys→ys[i]?=some y,fun i H=>∃xs ys,SqT K H t xs∧SqL K H l ys∧xs.length≤i⟩
theorem ϛE {P:Program}{w:World}{K:PySem.W.Frag}{es:List Expr}{x1:Nat}{tp:Pos}{t l z TI TO i1 i2:Addr} (D:ZpA z TI TO i1 i2 [i1,t] [i2,l]) (n1:t≠i1) (n2:l≠i2) :
  Turn P w K (.Tuple es x1 tp) (Itz K t l) [z,TI,TO,i1,i2] z (fun i h=>IsZip h z TI TO .none∧IsPair h TI (.ref i1) (.ref i2)∧(∃ a b,IsPair h TO a b)∧h.IsTupleIter i1 t i∧h.IsListIter i2 l i) where
 mem:=by simp
 obj:=by
  rintro i h ⟨hz,hI,⟨a,b,hO⟩,⟨o1,e1,c1,d1⟩,⟨o2,e2,c2,d2⟩⟩ c hc
  simp only[List.mem_cons,List.not_mem_nil,or_false] at hc
  rcases hc with rfl|rfl|rfl|rfl|rfl
  ·exact⟨_,hz,fun v z=>by cases z⟩
  ·exact⟨_,hI,fun v z=>by cases z⟩
  ·exact⟨_,hO,fun v z=>by cases z⟩
  ·exact⟨_,e1,fun v z=>by rw[d1] at z;cases z⟩
  ·exact⟨_,e2,fun v z=>by rw[d2] at z;cases z⟩
 keep:=by
  rintro i h h' ⟨hz,hI,⟨a,b,hO⟩,⟨o1,e1,r1⟩,⟨o2,e2,r2⟩⟩ k
  exact⟨k z (by simp) _ hz,k TI (by simp) _ hI,⟨a,b,k TO (by simp) _ hO⟩,⟨o1,k i1 (by simp) _ e1,r1⟩,⟨o2,k i2 (by simp) _ e2,r2⟩⟩
 item:=by
  intro X hP hw hK hc i pins s σ H E I hf st hg
  subst hP hw hK
  obtain⟨hz,hI,⟨a,b,hO⟩,h1,h2⟩:=st
  obtain⟨xs,ys,x,y,hT,hL,hx,hy⟩:=hg
  obtain⟨its,rv,pT,hz1⟩:=I.tuple hT
  obtain⟨jts,rw',pL,hz2⟩:=I.list hL
  obtain⟨u,hu,ru⟩:=rv.get hx
  obtain⟨v,hv,rv2⟩:=rw'.get hy
  have hT1:s.heap.IsTuple t its.toArray:=pT
  have i1z:=(D.a1 _ D.m1).1
  have i1O:=(D.a1 _ D.m1).2.1
  have i2z:=(D.a2 _ D.m2).1
  have i2O:=(D.a2 _ D.m2).2.1
  refine zp_item (ϛ8 (xs:=its.toArray) n1) (ϝX (xs:=jts.toArray) n2) D hz hI hO ⟨h1,hT1⟩ ⟨h2,pL.isList⟩ (x:=u) (y:=v) (by simpa using hu) (by simpa using hv) fun k1 z1 o1 s1 s2 p1 g1=>⟨_,rfl,?_⟩
  refine wpAny_letOwnedTupleGo_zip z1 fun k2 z2 u2=>?_
  replace u2:Heap.SameBut z k1 k2:=u2
  have lz:z < s.heap.objs.size:=Heap.lt_size hz
  have hp0:H s.heap.objs.size=none:=I.hok.fresh (Nat.le_refl _)
  have p2:IsPair k2 s.heap.objs.size u v:=u2.extBut _ _ (Nat.ne_of_gt lz) p1
  have I1:Inv X pins σ (upd H s.heap.objs.size (.tup [x,y])) { s with heap:=s.heap.push { cls:=.type "tuple",data:=.seq #[u,v] } }:=
   I.laid (t':=s.toks) (fun b v q=>Heap.get?_push_of_some _ q) (Nat.le_refl _) ⟨by show 2≤sizeLine;decide,[u,v],.cons ru (.cons rv2 .nil),⟨_,Heap.get?_push_size _ rfl,rfl,_,rfl⟩⟩
  have lt:∀c∈[z,TI,TO,i1,i2],c < s.heap.objs.size:=fun c hc=>by
   simp only[List.mem_cons,List.not_mem_nil,or_false] at hc
   obtain⟨o1,e1,_⟩:=h1
   obtain⟨o2,e2,_⟩:=h2
   rcases hc with rfl|rfl|rfl|rfl|rfl
   ·exact lz
   ·exact Heap.lt_size hI
   ·exact Heap.lt_size hO
   ·exact Heap.lt_size e1
   ·exact Heap.lt_size e2
  have off:∀c∈[z,TI,TO,i1,i2],FpOk X pins (upd H s.heap.objs.size (.tup [x,y])) c:=fun c hc=>⟨by rw[ϖp (Nat.ne_of_lt (lt c hc))];exact(hf c hc).1,(hf c hc).2⟩
  have I2:Inv X pins σ (upd H s.heap.objs.size (.tup [x,y])) { s with heap:=k2 }:=ϝV (s:={ s with heap:=s.heap.push { cls:=.type "tuple",data:=.seq #[u,v] } }) (t':=s.toks) (ch:=[z,TI,TO,i1,i2]) I1 (fun c o nc q=>by
   simp only[List.mem_cons,List.not_mem_nil,or_false,not_or] at nc
   replace q:(s.heap.push { cls:=.type "tuple",data:=.seq #[u,v] }).get? c=some o:=q
   rcases Heap.get?_push_cases q with⟨y1,y2⟩|q'
   ·subst y1;subst y2;exact p2
   ·exact u2.extBut c o nc.1 (g1 c o nc.1 nc.2.2.1 nc.2.2.2.1 nc.2.2.2.2 q')) off
  refine⟨.ref s.heap.objs.size,_,I2,rfl,⟨_,x,y,hp0,rfl,rfl,fun xs' h'=>by rw[I.tuple_inj h' hT];exact hx,fun ys' h'=>by rw[I.list_inj h' hL];exact hy⟩,⟨z2,u2.extBut _ _ D.TIz (g1 _ _ D.TIz D.TIO D.TI1 D.TI2 hI),⟨_,_,u2.extBut _ _ D.TOz o1⟩,s1.1.extBut u2.extBut i1z,s2.1.extBut u2.extBut i2z⟩,fun c hc=>(off c hc).1⟩
 done:=by
  intro X hP hw hK hc i pins s σ H E I hf st hg
  subst hP hw hK
  obtain⟨hz,hI,⟨a,b,hO⟩,h1,h2⟩:=st
  obtain⟨xs,ys,hT,hL,hx⟩:=hg
  obtain⟨its,rv,pT,hz1⟩:=I.tuple hT
  obtain⟨jts,rw',pL,hz2⟩:=I.list hL
  have hl:=rv.length
  have hT1:s.heap.IsTuple t its.toArray:=pT
  refine zp_end (I.ok.hd hc) (ϛ8 (xs:=its.toArray) n1) (ϝX (xs:=jts.toArray) n2) D hz hI hO ⟨h1,hT1⟩ ⟨h2,pL.isList⟩ (by simp;omega) fun k1 g1=>⟨rfl,ϝV (t':=s.toks) (ch:=[z,TI,TO,i1,i2]) I (fun c o nc q=>?_) hf⟩
  simp only[List.mem_cons,List.not_mem_nil,or_false,not_or] at nc
  exact g1 c o nc.1 nc.2.2.1 nc.2.2.2.1 nc.2.2.2.2 q
 self:=fun _ _ _ _ _ ⟨hz,_⟩ h=>wpAny_pyIter_zip hz h
section
variable {prog:Program}{w:World}{A:Around}{E:Value→Shared→Prop}{s:Shared}
theorem zp_new {t l:Addr}{xs ys:Array Value}{Q:Value→Shared→Prop} (ht:s.heap.IsTuple t xs) (hl:s.heap.IsList l ys)
  (q:∀h' z TI TO i1 i2,s.heap.objs.size=i1→i2=i1+1→TI=i1+2→TO=i1+3→z=i1+4→IsZip h' z TI TO .none→IsPair h' TI (.ref i1) (.ref i2)→IsPair h' TO .none .none→h'.IsTupleIter i1 t 0→h'.IsListIter i2 l 0→(∀ c o,s.heap.get? c=some o→h'.get? c=some o)→Q (.ref z) { s with heap:=h' }) :
  wpAny (model prog w) A (call (.type "zip") [.ref t,.ref l]) Q E s:=by
 refine callType_new PySem.F.called_zip (by decide) (PySem.F.typeCall_zip_2 _ _) (PySem.F.newCall_zip_2 _ _) (fun obj=>PySem.F.args_object_init_3 obj _ _) PySem.F.entry_zip_new (S:=fun _ R s=>s.heap.IsTuple t xs∧s.heap.IsList l ys∧∀h',h'=((((s.heap.push { cls:=.type "tuple_iterator",data:=.fields #[.ref t,.int 0 0] }).push { cls:=.type "list_iterator",data:=.fields #[.ref l,.int 0 0] }).push { cls:=.type "tuple",data:=.seq #[.ref s.heap.objs.size,.ref (s.heap.objs.size+1)] }).push { cls:=.type "tuple",data:=.seq #[.none,.none] }).push { cls:=.type "zip",data:=.fields #[.none,.bool false,.bool false,.ref (s.heap.objs.size+2),.ref (s.heap.objs.size+3)] }→R (.ok (.ret (.ref (s.heap.objs.size+4)))) { s with heap:=h' }) ?_ ⟨ht,hl,fun h' e=>?_⟩
 ·refine .of_wp fun prog w A R s h=>?_
  obtain⟨hp,g,d,tk,os⟩:=s
  obtain⟨h1,h2,h⟩:=h
  have hsub:=PySem.sub_zip
  have L1:Heap.IsTuple (Shared.heap ⟨hp,g,d,tk,os⟩) t xs:=h1
  have L2:Heap.IsList (Shared.heap ⟨hp.push { cls:=.type "tuple_iterator",data:=.fields #[.ref t,.int 0 0] },g,d,tk,os⟩) l ys:=Heap.IsList.push h2 _
  wp_walk using wpAny_pyIter_tuple L1,wpAny_pyIter_list L2
  refine⟨_,rfl,?_⟩
  have h':=h _ rfl
  simp[Heap.size_push]
  exact h'
 ·obtain⟨k1,e1⟩:∃k,k=s.heap.push { cls:=.type "tuple_iterator",data:=.fields #[.ref t,.int 0 0] }:=⟨_,rfl⟩
  obtain⟨k2,e2⟩:∃k,k=k1.push { cls:=.type "list_iterator",data:=.fields #[.ref l,.int 0 0] }:=⟨_,rfl⟩
  obtain⟨k3,e3⟩:∃k,k=k2.push { cls:=.type "tuple",data:=.seq #[.ref s.heap.objs.size,.ref (s.heap.objs.size+1)] }:=⟨_,rfl⟩
  obtain⟨k4,e4⟩:∃k,k=k3.push { cls:=.type "tuple",data:=.seq #[.none,.none] }:=⟨_,rfl⟩
  rw[← e1,← e2,← e3,← e4] at e
  have c1:k1.objs.size=s.heap.objs.size+1:=by rw[e1];exact Heap.size_push ..
  have c2:k2.objs.size=s.heap.objs.size+2:=by rw[e2,Heap.size_push,c1]
  have c3:k3.objs.size=s.heap.objs.size+3:=by rw[e3,Heap.size_push,c2]
  have c4:k4.objs.size=s.heap.objs.size+4:=by rw[e4,Heap.size_push,c3]
  have u4:∀c o,k4.get? c=some o→h'.get? c=some o:=fun c o z=>by rw[e];exact Heap.get?_push_of_some _ z
  have u3:∀c o,k3.get? c=some o→h'.get? c=some o:=fun c o z=>u4 c o (by rw[e4];exact Heap.get?_push_of_some _ z)
  have u2:∀c o,k2.get? c=some o→h'.get? c=some o:=fun c o z=>u3 c o (by rw[e3];exact Heap.get?_push_of_some _ z)
  have u1:∀c o,k1.get? c=some o→h'.get? c=some o:=fun c o z=>u2 c o (by rw[e2];exact Heap.get?_push_of_some _ z)
  have u0:∀c o,s.heap.get? c=some o→h'.get? c=some o:=fun c o z=>u1 c o (by rw[e1];exact Heap.get?_push_of_some _ z)
  have G1:=u1 s.heap.objs.size _ (by rw[e1];exact Heap.get?_push_size _ rfl)
  have G2:=u2 (s.heap.objs.size+1) _ (by rw[e2,← c1];exact Heap.get?_push_size _ rfl)
  have G3:=u3 (s.heap.objs.size+2) _ (by rw[e3,← c2];exact Heap.get?_push_size _ rfl)
  have G4:=u4 (s.heap.objs.size+3) _ (by rw[e4,← c3];exact Heap.get?_push_size _ rfl)
  have G5:h'.get? (s.heap.objs.size+4)=some { cls:=.type "zip",data:=.fields #[.none,.bool false,.bool false,.ref (s.heap.objs.size+2),.ref (s.heap.objs.size+3)] }:=by rw[e,← c4];exact Heap.get?_push_size _ rfl
  exact⟨⟨_,G5,rfl⟩,q h' _ _ _ _ _ rfl rfl rfl rfl rfl G5 G3 G4 ⟨_,G1,rfl,rfl⟩ ⟨_,G2,rfl,rfl⟩ u0⟩
end
section
variable {X:Cx}
def iZip (K:PySem.W.Frag) (ta:TA):TI:=fun σ H R=>ta σ H fun vs H1=>∃t l,vs=[.ref t,.ref l]∧(∃ xs,SqT K H1 t xs)∧(∃ ys,SqL K H1 l ys)∧R (Itz K t l) H1
theorem pi_zip {a b:Expr}{ta:TA}{p pos tp:Pos}{es:List Expr}{x1:Nat} (hg:Gl X "zip") (hm:X.mg "zip"=none) (ha:PA X [a,b] ta) (hs:starEach [a,b] X.env=(false,eval a X.env)::starEach [b] X.env:=by rfl) (hp:(backTo pos (starEach [b] X.env)).any (·.1)=false:=by rfl) :
  PI X (.Tuple es x1 tp) (.Call (.Name "zip" p) [a,b] [] pos) (iZip X.K ta):=by
 intro pins s σ H R I h
 refine Call_ (ϱY I hg hm boot_zip (PyProof.Rows.callWith_type1 (thn (ha pos pins s σ H _ I h) fun us s1 ⟨vs,H1,I1,r1,q1⟩=>?_) hs hp))
 obtain⟨t,l,rfl,⟨xs,hT⟩,⟨ys,hL⟩,q⟩:=q1
 cases r1 with
 |cons r rr=>
  cases r
  cases rr with
  |cons r rr=>
   cases rr
   cases r
   obtain⟨its,rv,pT,_⟩:=I1.tuple hT
   obtain⟨jts,rw',pL,_⟩:=I1.list hL
   have hT1:s1.heap.IsTuple t its.toArray:=pT
   have lt:t < s1.heap.objs.size:=by obtain⟨o,e,_⟩:=hT1;exact Heap.lt_size e
   have ll:l < s1.heap.objs.size:=by obtain⟨o,e,_⟩:=pL.isList;exact Heap.lt_size e
   refine zp_new hT1 pL.isList fun h' z TI TO i1 i2 d1 d2 d3 d4 d5 hz hI hO h1 h2 kp=>?_
   refine wpAny_pyIter_zip hz ?_
   have ne:∀{a b:Nat},¬ (a=b)→a≠b:=fun h=>h
   have lN:∀{a b:Nat},a < b→a < b:=fun h=>h
   have lt:=lN lt
   have ll:=lN ll
   have D:ZpA z TI TO i1 i2 [i1,t] [i2,l]:=by
    refine⟨ne (by omega),ne (by omega),ne (by omega),ne (by omega),ne (by omega),by simp,by simp,fun c hc=>?_,fun c hc=>?_⟩
    ·simp only[List.mem_cons,List.not_mem_nil,or_false] at hc
     rcases hc with hc|hc<;>rw[hc]<;>exact⟨ne (by omega),ne (by omega),ne (by omega)⟩
    ·simp only[List.mem_cons,List.not_mem_nil,or_false] at hc
     rcases hc with hc|hc<;>rw[hc]<;>exact⟨ne (by omega),ne (by omega),ne (by omega)⟩
   have n1:t≠i1:=ne (by omega)
   have n2:l≠i2:=ne (by omega)
   refine⟨_,[z,TI,TO,i1,i2],_,_,H1,rfl,I1.kept (t':=s1.toks) kp,ϛE (t:=t) (l:=l) D n1 n2,⟨hz,hI,⟨_,_,hO⟩,h1,h2⟩,fun c hc=>?_,q⟩
   ·have hb:s1.heap.objs.size≤c:=by
     simp only[List.mem_cons,List.not_mem_nil,or_false] at hc
     have le:∀{a b:Nat},a≤b→a≤b:=fun h=>h
     rcases hc with hc|hc|hc|hc|hc<;>rw[hc]<;>exact le (by omega)
    exact I1.fpOk hb (I1.hok.fresh hb)
end
theorem for_zip {K:PySem.W.Frag}{t l:Addr}{xs ys:List V}{g:TG}{tb:TS}{D:Ends}{σ:L2.St}{H:Hp} (hlen:xs.length≤ys.length) (Pv:Nat→L2.St→Hp→Prop) (h0:Pv 0 σ H) (hl:∀i σ H,i≤xs.length→Pv i σ H→SqT K H t xs∧SqL K H l ys)
  (hs:∀i x y p σ H,xs[i]?=some x→ys[i]?=some y→Pv i σ H→H p=none→g (.ref p) σ (upd H p (.tup [x,y])) fun σ2 H2=>tb { D with nx:=Pv (i+1),ct:=Pv (i+1),bk:=D.nx } σ2 H2) (hd:∀σ H,Pv xs.length σ H→D.nx σ H) :
  ∃W:Nat→Nat→L2.St→Hp→Prop,(∃ m,W 0 m σ H)∧∀i m σ H,W i m σ H →
   ((Itz K t l).stop i H∧D.nx σ H)∨((Itz K t l).go i H∧∃N:L2.St→Hp→Prop,(∀ σ' H',N σ' H'→∃m',m' < m∧W (i+1) m' σ' H')∧∀x H',(Itz K t l).yld i H x H'→g x σ H' fun σ2 H2=>tb { D with nx:=N,ct:=N,bk:=D.nx } σ2 H2):=by
 refine⟨fun i m σ H=>m=xs.length-i∧i≤xs.length∧Pv i σ H,⟨xs.length,by simp,Nat.zero_le _,h0⟩,?_⟩
 rintro i m σ H ⟨rfl,hi,p⟩
 obtain⟨q1,q2⟩:=hl i σ H hi p
 by_cases hlt:i < xs.length
 ·have hlt2:i < ys.length:=by omega
  refine .inr ⟨⟨xs,ys,xs[i],ys[i],q1,q2,by simp[hlt],by simp[hlt2]⟩,Pv (i+1),fun σ' H' p'=>⟨xs.length-(i+1),by omega,rfl,hlt,p'⟩,fun x H' y=>?_⟩
  obtain⟨b,u,v,hb,rfl,rfl,y1,y2⟩:=y
  exact hs i u v b σ H (y1 xs q1) (y2 ys q2) p hb
 ·have e:i=xs.length:=by omega
  subst e
  exact .inl ⟨⟨xs,ys,q1,q2,Nat.le_refl _⟩,hd σ H p⟩
end L3
namespace L3
open PySem PySem.Spec PyProof.Rows L2
theorem ϛA {K:PySem.W.Frag}{t l:Addr}{xs ys:List V}{g:TG}{tb:TS}{D:Ends}{σ:L2.St}{H:Hp} (hlen:xs.length≤ys.length) (Pv:Nat→L2.St→Hp→Prop) (h0:Pv 0 σ H) (hl:∀i σ H,i≤xs.length→Pv i σ H→SqT K H t xs∧SqL K H l ys)
  (hs:∀(b:L2.St→Hp→Prop) (r:VK),b=D.nx→r=D.rt→∀i x y p σ H,xs[i]?=some x→ys[i]?=some y→Pv i σ H→H p=none→g (.ref p) σ (upd H p (.tup [x,y])) fun σ2 H2=>tb { nx:=Pv (i+1),rt:=r,bk:=b,ct:=Pv (i+1) } σ2 H2) (hd:∀σ H,Pv xs.length σ H→D.nx σ H) :
  ∃W:Nat→Nat→L2.St→Hp→Prop,(∃ m,W 0 m σ H)∧∀i m σ H,W i m σ H →
   ((Itz K t l).stop i H∧D.nx σ H)∨((Itz K t l).go i H∧∃N:L2.St→Hp→Prop,(∀ σ' H',N σ' H'→∃m',m' < m∧W (i+1) m' σ' H')∧∀x H',(Itz K t l).yld i H x H'→g x σ H' fun σ2 H2=>tb { D with nx:=N,ct:=N,bk:=D.nx } σ2 H2):=for_zip hlen Pv h0 hl (hs _ _ rfl rfl) hd
end L3
namespace L3
open PySem
def ϕp (s sub:Str) (hi i:Nat) (st:Array Nat×Nat):Array Nat×Nat:=if (decide (st.1.size < 1) && decide (st.2≤i) && decide (i+sub.length≤hi) && Builtin.Str.subAt s sub i)=true then (st.1.push i,i+sub.length) else (st.1,st.2)
theorem ϡc (s sub:Str) (hi:Nat):∀(l:List Nat) (st:Array Nat×Nat),(forIn (m:=Id) l st fun i st=>if (decide (st.1.size < 1) && decide (st.2≤i) && decide (i+sub.length≤hi) && Builtin.Str.subAt s sub i)=true then pure (ForInStep.yield (st.1.push i,i+sub.length)) else pure (ForInStep.yield (st.1,st.2)))=(pure (l.foldl (fun st i=>ϕp s sub hi i st) st):Id _)
 |[],st=>rfl
 |i::l,st=>by
  rw[List.forIn_cons,List.foldl_cons]
  unfold ϕp
  split
  ·exact ϡc s sub hi l _
  ·exact ϡc s sub hi l _
theorem ϛj (s sub:Str) (hi:Nat):Builtin.Str.occurrences s sub 0 hi 1=((List.range' 0 (hi+1)).foldl (fun st i=>ϕp s sub hi i st) (#[],0)).1.toList:=by
 unfold Builtin.Str.occurrences
 simp only[Id.run,Std.Legacy.Range.forIn_eq_forIn_range',Std.Legacy.Range.size]
 have e:(hi+1-0+1-1) / 1=hi+1:=by omega
 rw[e]
 have h:=ϡc s sub hi (List.range' 0 (hi+1)) (#[],0)
 show(Bind.bind (m:=Id) (forIn (m:=Id) (List.range' 0 (hi+1)) (#[],0) _) _)=_
 rw[h]
 rfl
theorem ϡ1 (s sub:Str) (hi:Nat):∀(l:List Nat) (st:Array Nat×Nat),1≤st.1.size→(l.foldl (fun st i=>ϕp s sub hi i st) st).1=st.1
 |[],_,_=>rfl
 |i::l,st,h=>by
  rw[List.foldl_cons]
  have e:ϕp s sub hi i st=(st.1,st.2):=by
   unfold ϕp
   rw[decide_eq_false (show ¬ st.1.size < 1 by omega)]
   rfl
  rw[e]
  exact ϡ1 s sub hi l _ h
theorem ϝ3 (s sub:Str) (hi:Nat):∀l:List Nat,((l.foldl (fun st i=>ϕp s sub hi i st) (#[],0)).1.toList.isEmpty)=!(l.any fun i=>decide (i+sub.length≤hi) && Builtin.Str.subAt s sub i)
 |[]=>rfl
 |i::l=>by
  rw[List.foldl_cons,List.any_cons]
  by_cases c:(decide (i+sub.length≤hi) && Builtin.Str.subAt s sub i)=true
  ·have e:ϕp s sub hi i (#[],0)=(#[].push i,i+sub.length):=by
    unfold ϕp
    have:(decide ((#[]:Array Nat).size < 1) && decide (0≤i) && decide (i+sub.length≤hi) && Builtin.Str.subAt s sub i)=true:=by simpa using c
    rw[if_pos this]
   rw[e,ϡ1 _ _ _ _ _ (by simp),c]
   rfl
  ·have e:ϕp s sub hi i (#[],0)=(#[],0):=by
    unfold ϕp
    have:¬ (decide ((#[]:Array Nat).size < 1) && decide (0≤i) && decide (i+sub.length≤hi) && Builtin.Str.subAt s sub i)=true:=by simpa using c
    rw[if_neg this]
   rw[e,ϝ3 s sub hi l]
   have:(decide (i+sub.length≤hi) && Builtin.Str.subAt s sub i)=false:=by simpa using c
   rw[this,Bool.false_or]
theorem in_one (c:Nat) (g:Str):(!(Builtin.Str.occurrences g ⟨#[c]⟩ 0 g.length 1).isEmpty)=decide (c∈cl g):=by
 rw[ϛj,ϝ3,Bool.not_not,Bool.eq_iff_iff,List.any_eq_true,decide_eq_true_eq]
 have key:∀i,i+1≤g.length→(Builtin.Str.subAt g ⟨#[c]⟩ i=true↔(cl g)[i]?=some c):=fun i hi=>by
  unfold Builtin.Str.subAt
  show((g.cps.extract i (i+1) == #[c])=true)↔_
  rw[beq_iff_eq]
  have hs:i < g.cps.size:=hi
  have e:g.cps.extract i (i+1)=#[g.cps[i]]:=by
   apply Array.ext
   ·simp;omega
   ·intro j h1 h2
    simp at h2
    subst h2
    simp
  rw[e]
  show _↔g.cps.toList[i]?=some c
  rw[Array.getElem?_toList,Array.getElem?_eq_getElem hs]
  simp
 constructor
 ·rintro⟨i,_,h⟩
  rw[Bool.and_eq_true,decide_eq_true_eq] at h
  exact List.mem_of_getElem? ((key i h.1).mp h.2)
 ·intro h
  obtain⟨i,hi,e⟩:=List.getElem_of_mem h
  have hi':i+1≤g.length:=by rw[ϖ6] at hi;omega
  refine⟨i,List.mem_range'_1.mpr ⟨Nat.zero_le _,by omega⟩,?_⟩
  rw[Bool.and_eq_true,decide_eq_true_eq]
  exact⟨hi',(key i hi').mpr (by rw[← e];exact List.getElem?_eq_getElem hi)⟩
end L3
namespace L3
open PySem PySem.Spec PyProof.Rows L2
theorem kPI {X:Cx}{K:PySem.W.Frag}{tg it:Expr} (f:PySem.W.Frag→TI) (h:PI X tg it (f X.K)) (e:X.K=K:=by rfl):PI X tg it (f K):=e▸h
theorem kPE {X:Cx}{K:PySem.W.Frag}{ex:Expr} (f:PySem.W.Frag→TE) (h:PE X ex (f X.K)) (e:X.K=K:=by rfl):PE X ex (f K):=e▸h
theorem kPG {X:Cx}{K:PySem.W.Frag}{tg:Expr} (f:PySem.W.Frag→TG) (h:PG X tg (f X.K)) (e:X.K=K:=by rfl):PG X tg (f K):=e▸h
theorem ϰ2 {X:Cx}{K:PySem.W.Frag}{f:Value} (r:PySem.W.Frag→List V→Hp→VK→Prop) (h:CallR X f (r X.K)) (e:X.K=K:=by rfl):CallR X f (r K):=e▸h
def rLo (K:PySem.W.Frag):List V→Hp→VK→Prop:=fun xs H Q=>∃p ys,xs=[.ref p]∧(SqL K H p ys∨SqT K H p ys)∧∀l,H l=none→Q (.ref l) (upd H l (.lst ys))
def rIs (K:PySem.W.Frag):List V→Hp→VK→Prop:=fun xs H Q=>∃x T t b,xs=[x,.ty T]∧TyOf K H x t∧PySem.W.kitOne K t (.type T)=some b∧Q (.bl b) H
def rIsD (K:PySem.W.Frag):List V→Hp→VK→Prop:=fun xs H Q=>∃x d T,xs=[x,.ty T]∧Rep K H d x∧(T="tuple"∨T="int"∨T="bool"∨T="str"∨T="list")∧Q (.bl (isT d T)) H
end L3
namespace My
open PySem PySem.Spec PyProof.Rows L2 L3 PySem.Challenge
open PySem.W (nsIn codeIn keepIn fnOf mg_of mg_none_of findIn mroIn kitOne Frag)
def top (i:Nat):Stmt:=pw_earlyscribe_k61_one_behind_the_other.main.body.getD i (.Pass ⟨0,0,0,0⟩)
end My
lay_quick PySem.Challenge.pw_earlyscribe_k61_one_behind_the_other
namespace My
open PySem PySem.W PyProof.Rows L2 L3 PySem.Challenge
abbrev fob (x:Str) (st:Stmt) (oc:Value) (od:Option Addr) (kV dc pm:Value) (an:Option Addr) (cd ct:Value) (sl:Array (Option Value)):Obj:=⟨oc,od,.func (fnOf x x (ϖD st) (ϖB st) (ϖj st) .none kV dc pm an cd ct),sl⟩
abbrev de (P:Params) (x:Str) (t:Tok) (v:Value):DictEntry:=⟨PySem.PyData.keyHash P x,.str x t,v⟩
abbrev cob (x:Str) (a b c:Tok) (l n:Int) (r r2 v1 v2 v3 v4:Value) (n6:Int) (c2:Tok):Obj:=⟨.type "code",none,.fields #[.str x a,.str x b,.str "/claim/cut.py" c,.int l 0,.int n 0,.int 0 0,.int 0 0,.int 3 0,r,.bool true,.int 181 0,r2,v1,v2,v3,v4,.int n6 0,.int l 0,.str "/claim/cut.py" c2],#[]⟩
noncomputable def ko2 (P:Params):Obj:=⟨.none,none,(.dict #[] 0),#[]⟩
noncomputable def ko3 (P:Params):Obj:=⟨(.type "dict"),none,(.dict #[de P "__name__" 165 (.str "law_earlyscribe_k61_one_behind_the_other" 440),de P "__doc__" 166 .none,de P "__package__" 167 .none,de P "__loader__" 168 (.builtin "__main__.__loader__#opaque"),de P "__spec__" 169 .none,de P "__annotations__" 170 (.ref 6),de P "__builtins__" 171 (.ref 4),de P "__file__" 173 (.str "/claim/cut.py" 172),de P "__cached__" 174 .none,de P "ScribeError" 206 (.ref 24),de P "NotPlain" 222 (.ref 37),de P "TooMany" 238 (.ref 49),de P "SIGNS" 242 (.int 0 241),de P "ROOMS" 244 (.int 1 243),de P "BEGINS" 246 (.int 2 245),de P "STEPS" 248 (.int 3 247),de P "ENDS" 250 (.int 4 249),de P "MOST_ROOMS" 252 (.int 200 251),de P "all_unlike" 259 (.ref 58),de P "is_plain" 265 (.ref 63),de P "refuse_choices" 272 (.ref 70),de P "refuse_many_pairs" 280 (.ref 77),de P "steps_by_start" 289 (.ref 84),de P "read_from" 301 (.ref 91),de P "OUT_OF" 305 (.int 0 304),de P "INTO" 307 (.int 3 306),de P "places_at" 318 (.ref 98),de P "traces_from" 336 (.ref 105),de P "traces_from_begins" 343 (.ref 112),de P "traces_to_ends" 350 (.ref 119),de P "useful_rooms" 356 (.ref 124),de P "marks_kept" 362 (.ref 129),de P "steps_kept" 368 (.ref 134),de P "trimmed_of" 380 (.ref 141),de P "joined_begins" 393 (.ref 148),de P "joined_steps" 405 (.ref 155),de P "joined_steps_by_pair" 411 (.ref 160),de P "joined_ends" 426 (.ref 167),de P "joined_behind" 439 (.ref 174),de P "_law_cell_at" 449 (.ref 181),de P "_law_whole" 456 (.ref 188),de P "_law_mixed" 465 (.ref 195),de P "_law_word" 476 (.ref 202),de P "_law_signs" 482 (.ref 207),de P "_law_rest" 493 (.ref 214),de P "_law_plain" 499 (.ref 219),de P "_law_copy" 506 (.ref 226),de P "_law_is_scribe" 517 (.ref 233),de P "_law_run" 523 (.ref 238),de P "_law_text" 536 (.ref 245),de P "_law_follow" 542 (.ref 250),de P "_law_rooms_good" 548 (.ref 255),de P "law" 564 (.ref 262)] 53),#[]⟩
noncomputable def ko23 (P:Params):Obj:=⟨(.type "dict"),none,(.dict #[de P "__module__" 196 (.str "earlyscribe.errors" 187),de P "__firstlineno__" 200 (.int 2 199),de P "__static_attributes__" 201 (.ref 22),de P "__weakref__" 203 (.ref 25),de P "__doc__" 204 .none] 3),#[]⟩
noncomputable def ko24 (P:Params):Obj:=⟨(.type "type"),none,(.cls ⟨"ScribeError",[(.type "ValueError")],[(.ref 24),(.type "ValueError"),(.type "Exception"),(.type "BaseException"),(.type "object")],23,"ScribeError",true,[],[(.ref 37),(.ref 49)],false,none,false⟩),#[(some (.ref 15)),none,(some (.str "ScribeError" 189)),(some (.str "ScribeError" 197)),(some (.builtin "ValueError.__new__")),(some (.bool true))]⟩
noncomputable def ko36 (P:Params):Obj:=⟨(.type "dict"),none,(.dict #[de P "__module__" 214 (.str "earlyscribe.errors" 187),de P "__firstlineno__" 218 (.int 4 217),de P "__static_attributes__" 219 (.ref 35),de P "__doc__" 220 .none] 2),#[]⟩
noncomputable def ko37 (P:Params):Obj:=⟨(.type "type"),none,(.cls ⟨"NotPlain",[(.ref 24)],[(.ref 37),(.ref 24),(.type "ValueError"),(.type "Exception"),(.type "BaseException"),(.type "object")],36,"NotPlain",true,[],[],false,none,false⟩),#[(some (.ref 28)),none,(some (.str "NotPlain" 207)),(some (.str "NotPlain" 215)),(some (.builtin "ValueError.__new__")),(some (.bool true))]⟩
noncomputable def ko48 (P:Params):Obj:=⟨(.type "dict"),none,(.dict #[de P "__module__" 230 (.str "earlyscribe.errors" 187),de P "__firstlineno__" 234 (.int 6 233),de P "__static_attributes__" 235 (.ref 47),de P "__doc__" 236 .none] 2),#[]⟩
noncomputable def ko49 (P:Params):Obj:=⟨(.type "type"),none,(.cls ⟨"TooMany",[(.ref 24)],[(.ref 49),(.ref 24),(.type "ValueError"),(.type "Exception"),(.type "BaseException"),(.type "object")],48,"TooMany",true,[],[],false,none,false⟩),#[(some (.ref 40)),none,(some (.str "TooMany" 223)),(some (.str "TooMany" 231)),(some (.builtin "ValueError.__new__")),(some (.bool true))]⟩
noncomputable def ko57 (P:Params):Obj:=cob "all_unlike" 253 254 255 15 1 (.ref 52) (.ref 53) .none (.ref 54) (.ref 55) (.ref 56) 257 258
noncomputable def ko58 (P:Params):Obj:=fob "all_unlike" (top 11) (.type "function") none .none .none (.str "earlyscribe.scribes" 239) none (.ref 57) .none #[]
noncomputable def ko62 (P:Params):Obj:=cob "is_plain" 260 261 262 17 1 (.ref 59) (.ref 60) .none .none .none (.ref 61) 263 264
noncomputable def ko63 (P:Params):Obj:=fob "is_plain" (top 12) (.type "function") none .none .none (.str "earlyscribe.scribes" 239) none (.ref 62) .none #[]
noncomputable def ko69 (P:Params):Obj:=cob "refuse_choices" 266 267 268 23 1 (.ref 64) (.ref 65) .none (.ref 66) (.ref 67) (.ref 68) 270 271
noncomputable def ko70 (P:Params):Obj:=fob "refuse_choices" (top 13) (.type "function") none .none .none (.str "earlyscribe.scribes" 239) none (.ref 69) .none #[]
noncomputable def ko76 (P:Params):Obj:=cob "refuse_many_pairs" 273 274 275 26 2 (.ref 71) (.ref 72) .none (.ref 73) (.ref 74) (.ref 75) 278 279
noncomputable def ko77 (P:Params):Obj:=fob "refuse_many_pairs" (top 14) (.type "function") none .none .none (.str "earlyscribe.scribes" 239) none (.ref 76) .none #[]
noncomputable def ko83 (P:Params):Obj:=cob "steps_by_start" 281 282 283 29 1 (.ref 78) (.ref 79) .none (.ref 80) (.ref 81) (.ref 82) 287 288
noncomputable def ko84 (P:Params):Obj:=fob "steps_by_start" (top 15) (.type "function") none .none .none (.str "earlyscribe.scribes" 239) none (.ref 83) .none #[]
noncomputable def ko90 (P:Params):Obj:=cob "read_from" 290 291 292 34 3 (.ref 85) (.ref 86) .none (.ref 87) (.ref 88) (.ref 89) 299 300
noncomputable def ko91 (P:Params):Obj:=fob "read_from" (top 16) (.type "function") none .none .none (.str "earlyscribe.scribes" 239) none (.ref 90) .none #[]
noncomputable def ko97 (P:Params):Obj:=cob "places_at" 308 309 310 46 2 (.ref 92) (.ref 93) .none (.ref 94) (.ref 95) (.ref 96) 316 317
noncomputable def ko98 (P:Params):Obj:=fob "places_at" (top 20) (.type "function") none .none .none (.str "earlyscribe.trims" 302) none (.ref 97) .none #[]
noncomputable def ko104 (P:Params):Obj:=cob "traces_from" 319 320 321 51 4 (.ref 99) (.ref 100) .none (.ref 101) (.ref 102) (.ref 103) 334 335
noncomputable def ko105 (P:Params):Obj:=fob "traces_from" (top 21) (.type "function") none .none .none (.str "earlyscribe.trims" 302) none (.ref 104) .none #[]
noncomputable def ko111 (P:Params):Obj:=cob "traces_from_begins" 337 338 339 68 1 (.ref 106) (.ref 107) .none (.ref 108) (.ref 109) (.ref 110) 341 342
noncomputable def ko112 (P:Params):Obj:=fob "traces_from_begins" (top 22) (.type "function") none .none .none (.str "earlyscribe.trims" 302) none (.ref 111) .none #[]
noncomputable def ko118 (P:Params):Obj:=cob "traces_to_ends" 344 345 346 70 1 (.ref 113) (.ref 114) .none (.ref 115) (.ref 116) (.ref 117) 348 349
noncomputable def ko119 (P:Params):Obj:=fob "traces_to_ends" (top 23) (.type "function") none .none .none (.str "earlyscribe.trims" 302) none (.ref 118) .none #[]
noncomputable def ko123 (P:Params):Obj:=cob "useful_rooms" 351 352 353 72 1 (.ref 120) (.ref 121) .none .none .none (.ref 122) 354 355
noncomputable def ko124 (P:Params):Obj:=fob "useful_rooms" (top 24) (.type "function") none .none .none (.str "earlyscribe.trims" 302) none (.ref 123) .none #[]
noncomputable def ko128 (P:Params):Obj:=cob "marks_kept" 357 358 359 75 2 (.ref 125) (.ref 126) .none .none .none (.ref 127) 360 361
noncomputable def ko129 (P:Params):Obj:=fob "marks_kept" (top 25) (.type "function") none .none .none (.str "earlyscribe.trims" 302) none (.ref 128) .none #[]
noncomputable def ko133 (P:Params):Obj:=cob "steps_kept" 363 364 365 77 2 (.ref 130) (.ref 131) .none .none .none (.ref 132) 366 367
noncomputable def ko134 (P:Params):Obj:=fob "steps_kept" (top 26) (.type "function") none .none .none (.str "earlyscribe.trims" 302) none (.ref 133) .none #[]
noncomputable def ko140 (P:Params):Obj:=cob "trimmed_of" 369 370 371 80 1 (.ref 135) (.ref 136) .none (.ref 137) (.ref 138) (.ref 139) 378 379
noncomputable def ko141 (P:Params):Obj:=fob "trimmed_of" (top 27) (.type "function") none .none .none (.str "earlyscribe.trims" 302) none (.ref 140) .none #[]
noncomputable def ko147 (P:Params):Obj:=cob "joined_begins" 383 384 385 89 2 (.ref 142) (.ref 143) .none (.ref 144) (.ref 145) (.ref 146) 391 392
noncomputable def ko148 (P:Params):Obj:=fob "joined_begins" (top 29) (.type "function") none .none .none (.str "earlyscribe.joins" 381) none (.ref 147) .none #[]
noncomputable def ko154 (P:Params):Obj:=cob "joined_steps" 394 395 396 98 3 (.ref 149) (.ref 150) .none (.ref 151) (.ref 152) (.ref 153) 403 404
noncomputable def ko155 (P:Params):Obj:=fob "joined_steps" (top 30) (.type "function") none .none .none (.str "earlyscribe.joins" 381) none (.ref 154) .none #[]
noncomputable def ko159 (P:Params):Obj:=cob "joined_steps_by_pair" 406 407 408 105 3 (.ref 156) (.ref 157) .none .none .none (.ref 158) 409 410
noncomputable def ko160 (P:Params):Obj:=fob "joined_steps_by_pair" (top 31) (.type "function") none .none .none (.str "earlyscribe.joins" 381) none (.ref 159) .none #[]
noncomputable def ko166 (P:Params):Obj:=cob "joined_ends" 412 413 414 119 3 (.ref 161) (.ref 162) .none (.ref 163) (.ref 164) (.ref 165) 424 425
noncomputable def ko167 (P:Params):Obj:=fob "joined_ends" (top 32) (.type "function") none .none .none (.str "earlyscribe.joins" 381) none (.ref 166) .none #[]
noncomputable def ko173 (P:Params):Obj:=cob "joined_behind" 427 428 429 130 2 (.ref 168) (.ref 169) .none (.ref 170) (.ref 171) (.ref 172) 437 438
noncomputable def ko174 (P:Params):Obj:=fob "joined_behind" (top 33) (.type "function") none .none .none (.str "earlyscribe.joins" 381) none (.ref 173) .none #[]
noncomputable def ko180 (P:Params):Obj:=cob "_law_cell_at" 442 443 444 142 2 (.ref 175) (.ref 176) .none (.ref 177) (.ref 178) (.ref 179) 447 448
noncomputable def ko181 (P:Params):Obj:=fob "_law_cell_at" (top 35) (.type "function") none .none .none (.str "law_earlyscribe_k61_one_behind_the_other" 440) none (.ref 180) .none #[]
noncomputable def ko187 (P:Params):Obj:=cob "_law_whole" 450 451 452 146 1 (.ref 182) (.ref 183) .none (.ref 184) (.ref 185) (.ref 186) 454 455
noncomputable def ko188 (P:Params):Obj:=fob "_law_whole" (top 36) (.type "function") none .none .none (.str "law_earlyscribe_k61_one_behind_the_other" 440) none (.ref 187) .none #[]
noncomputable def ko194 (P:Params):Obj:=cob "_law_mixed" 457 458 459 148 2 (.ref 189) (.ref 190) .none (.ref 191) (.ref 192) (.ref 193) 463 464
noncomputable def ko195 (P:Params):Obj:=fob "_law_mixed" (top 37) (.type "function") none .none .none (.str "law_earlyscribe_k61_one_behind_the_other" 440) none (.ref 194) .none #[]
noncomputable def ko201 (P:Params):Obj:=cob "_law_word" 466 467 468 152 1 (.ref 196) (.ref 197) .none (.ref 198) (.ref 199) (.ref 200) 474 475
noncomputable def ko202 (P:Params):Obj:=fob "_law_word" (top 38) (.type "function") none .none .none (.str "law_earlyscribe_k61_one_behind_the_other" 440) none (.ref 201) .none #[]
noncomputable def ko206 (P:Params):Obj:=cob "_law_signs" 477 478 479 164 1 (.ref 203) (.ref 204) .none .none .none (.ref 205) 480 481
noncomputable def ko207 (P:Params):Obj:=fob "_law_signs" (top 39) (.type "function") none .none .none (.str "law_earlyscribe_k61_one_behind_the_other" 440) none (.ref 206) .none #[]
noncomputable def ko213 (P:Params):Obj:=cob "_law_rest" 483 484 485 168 3 (.ref 208) (.ref 209) .none (.ref 210) (.ref 211) (.ref 212) 491 492
noncomputable def ko214 (P:Params):Obj:=fob "_law_rest" (top 40) (.type "function") none .none .none (.str "law_earlyscribe_k61_one_behind_the_other" 440) none (.ref 213) .none #[]
noncomputable def ko218 (P:Params):Obj:=cob "_law_plain" 494 495 496 174 4 (.ref 215) (.ref 216) .none .none .none (.ref 217) 497 498
noncomputable def ko219 (P:Params):Obj:=fob "_law_plain" (top 41) (.type "function") none .none .none (.str "law_earlyscribe_k61_one_behind_the_other" 440) none (.ref 218) .none #[]
noncomputable def ko225 (P:Params):Obj:=cob "_law_copy" 500 501 502 194 1 (.ref 220) (.ref 221) .none (.ref 222) (.ref 223) (.ref 224) 504 505
noncomputable def ko226 (P:Params):Obj:=fob "_law_copy" (top 42) (.type "function") none .none .none (.str "law_earlyscribe_k61_one_behind_the_other" 440) none (.ref 225) .none #[]
noncomputable def ko232 (P:Params):Obj:=cob "_law_is_scribe" 507 508 509 196 1 (.ref 227) (.ref 228) .none (.ref 229) (.ref 230) (.ref 231) 515 516
noncomputable def ko233 (P:Params):Obj:=fob "_law_is_scribe" (top 43) (.type "function") none .none .none (.str "law_earlyscribe_k61_one_behind_the_other" 440) none (.ref 232) .none #[]
noncomputable def ko237 (P:Params):Obj:=cob "_law_run" 518 519 520 209 2 (.ref 234) (.ref 235) .none .none .none (.ref 236) 521 522
noncomputable def ko238 (P:Params):Obj:=fob "_law_run" (top 44) (.type "function") none .none .none (.str "law_earlyscribe_k61_one_behind_the_other" 440) none (.ref 237) .none #[]
noncomputable def ko244 (P:Params):Obj:=cob "_law_text" 524 525 526 224 3 (.ref 239) (.ref 240) .none (.ref 241) (.ref 242) (.ref 243) 534 535
noncomputable def ko245 (P:Params):Obj:=fob "_law_text" (top 45) (.type "function") none .none .none (.str "law_earlyscribe_k61_one_behind_the_other" 440) none (.ref 244) .none #[]
noncomputable def ko249 (P:Params):Obj:=cob "_law_follow" 537 538 539 235 3 (.ref 246) (.ref 247) .none .none .none (.ref 248) 540 541
noncomputable def ko250 (P:Params):Obj:=fob "_law_follow" (top 46) (.type "function") none .none .none (.str "law_earlyscribe_k61_one_behind_the_other" 440) none (.ref 249) .none #[]
noncomputable def ko254 (P:Params):Obj:=cob "_law_rooms_good" 543 544 545 248 1 (.ref 251) (.ref 252) .none .none .none (.ref 253) 546 547
noncomputable def ko255 (P:Params):Obj:=fob "_law_rooms_good" (top 47) (.type "function") none .none .none (.str "law_earlyscribe_k61_one_behind_the_other" 440) none (.ref 254) .none #[]
noncomputable def ko261 (P:Params):Obj:=cob "law" 549 550 551 258 1 (.ref 256) (.ref 257) .none (.ref 258) (.ref 259) (.ref 260) 562 563
noncomputable def ko262 (P:Params):Obj:=fob "law" (top 48) (.type "function") none .none .none (.str "law_earlyscribe_k61_one_behind_the_other" 440) none (.ref 261) .none #[]
noncomputable def K (P:Params):Frag:=(nat_lit 2,ko2 P)::(nat_lit 3,ko3 P)::(nat_lit 23,ko23 P)::(nat_lit 24,ko24 P)::(nat_lit 36,ko36 P)::(nat_lit 37,ko37 P)::(nat_lit 48,ko48 P)::(nat_lit 49,ko49 P)::(nat_lit 57,ko57 P)::(nat_lit 58,ko58 P)::(nat_lit 62,ko62 P)::(nat_lit 63,ko63 P)::(nat_lit 69,ko69 P)::(nat_lit 70,ko70 P)::(nat_lit 76,ko76 P)::(nat_lit 77,ko77 P)::(nat_lit 83,ko83 P)::(nat_lit 84,ko84 P)::(nat_lit 90,ko90 P)::(nat_lit 91,ko91 P)::(nat_lit 97,ko97 P)::(nat_lit 98,ko98 P)::(nat_lit 104,ko104 P)::(nat_lit 105,ko105 P)::(nat_lit 111,ko111 P)::(nat_lit 112,ko112 P)::(nat_lit 118,ko118 P)::(nat_lit 119,ko119 P)::(nat_lit 123,ko123 P)::(nat_lit 124,ko124 P)::(nat_lit 128,ko128 P)::(nat_lit 129,ko129 P)::(nat_lit 133,ko133 P)::(nat_lit 134,ko134 P)::(nat_lit 140,ko140 P)::(nat_lit 141,ko141 P)::(nat_lit 147,ko147 P)::(nat_lit 148,ko148 P)::(nat_lit 154,ko154 P)::(nat_lit 155,ko155 P)::(nat_lit 159,ko159 P)::(nat_lit 160,ko160 P)::(nat_lit 166,ko166 P)::(nat_lit 167,ko167 P)::(nat_lit 173,ko173 P)::(nat_lit 174,ko174 P)::(nat_lit 180,ko180 P)::(nat_lit 181,ko181 P)::(nat_lit 187,ko187 P)::(nat_lit 188,ko188 P)::(nat_lit 194,ko194 P)::(nat_lit 195,ko195 P)::(nat_lit 201,ko201 P)::(nat_lit 202,ko202 P)::(nat_lit 206,ko206 P)::(nat_lit 207,ko207 P)::(nat_lit 213,ko213 P)::(nat_lit 214,ko214 P)::(nat_lit 218,ko218 P)::(nat_lit 219,ko219 P)::(nat_lit 225,ko225 P)::(nat_lit 226,ko226 P)::(nat_lit 232,ko232 P)::(nat_lit 233,ko233 P)::(nat_lit 237,ko237 P)::(nat_lit 238,ko238 P)::(nat_lit 244,ko244 P)::(nat_lit 245,ko245 P)::(nat_lit 249,ko249 P)::(nat_lit 250,ko250 P)::(nat_lit 254,ko254 P)::(nat_lit 255,ko255 P)::(nat_lit 261,ko261 P)::(nat_lit 262,ko262 P)::[]
def as:List Addr:=[2,3,23,24,36,37,48,49,57,58,62,63,69,70,76,77,83,84,90,91,97,98,104,105,111,112,118,119,123,124,128,129,133,134,140,141,147,148,154,155,159,160,166,167,173,174,180,181,187,188,194,195,201,202,206,207,213,214,218,219,225,226,232,233,237,238,244,245,249,250,254,255,261,262]
end My
lay_quick My.K
namespace My
open PySem PySem.W PyProof.Rows L2 L3 PySem.Challenge
noncomputable def q:Program:=view pw_earlyscribe_k61_one_behind_the_other [1,2,3,5,6,7,8,9,10,11,12,13,14,15,16,18,19,20,21,22,23,24,25,26,27,29,30,31,32,33,35,36,37,38,39,40,41,42,43,44,45,46,47,48]
noncomputable def env:Env:={ scope:=pw_earlyscribe_k61_one_behind_the_other.main.scope,locals:=mainNs,globals:=mainNs,cells:=[],code:=(.ref 13),frame:=some 14 }
theorem size (w:World):((boot_heap w.params).isNs mainGlobals && (Array.mk ([]:List GenState)).size == 0,(boot_heap w.params).objs.size,(boot_heap w.params).nsMap mainGlobals "__annotations__")=(true,11,(some (.ref 6))):=by
 rw[PySem.W.Fast.te8920871248978507458]
 kernel_rfl
theorem hl:LeftO pw_earlyscribe_k61_one_behind_the_other q [] (fun s=>xlAt q [] s && recOk [] s) (fun s=>as.map s.heap.get?) (fun w=>(K w.params).map fun x=>some x.2) 3600:=by
 refine Hd.left_of (k1:=12) (k2:=1) (k3:=1738) (k4:=2) (n₁:=15) (m₀:=11) (ann:=(some (.ref 6))) (env:=env) (fp:=⟨0,0,0,0⟩) (p1:=⟨0,0,0,0⟩) (p2:=⟨0,0,0,0⟩) (p3:=⟨258,0,280,65⟩) rfl rfl (fun _=>rfl) size rfl ?_
 intro w
 unfold Hd.look q env
 rw[PySem.W.Fast.te15667345088766844465,PySem.W.Fast.te14374325043358763698,PySem.W.Fast.te10110043849684766642,PySem.W.Fast.te14082659384304107361,PySem.W.Fast.te14364793385576792824,PySem.W.Fast.te4187177175401517315,PySem.W.Fast.te5923862056798008813,PySem.W.Fast.te11892475500146522536,PySem.W.Fast.te12754154230045568370,PySem.W.Fast.te2654847155182119151]
 kernel_rfl
end My
namespace My
open PySem PySem.Spec PyProof.Rows L2 L3 PySem.Challenge
open PySem.W (nsIn codeIn keepIn fnOf mg_of mg_none_of findIn mroIn kitOne Frag)
abbrev ϑJ:Stmt:=top 11
abbrev ϕf:Stmt:=top 12
abbrev ϖ1:Stmt:=top 13
abbrev ϖS:Stmt:=top 14
abbrev ϖ3:Stmt:=top 15
abbrev ϑW:Stmt:=top 16
abbrev ϑQ:Stmt:=top 20
abbrev ϑr:Stmt:=top 21
abbrev ϖP:Stmt:=top 22
abbrev ϖ4:Stmt:=top 23
abbrev ϑg:Stmt:=top 24
abbrev ϑI:Stmt:=top 25
abbrev ϑE:Stmt:=top 26
abbrev ϑG:Stmt:=top 27
abbrev ϑb:Stmt:=top 29
abbrev ϑh:Stmt:=top 30
abbrev ϖK:Stmt:=top 31
abbrev ϑo:Stmt:=top 32
abbrev ϖ_:Stmt:=top 33
abbrev ϑq:Stmt:=top 35
abbrev ϑS:Stmt:=top 36
abbrev ϑ0:Stmt:=top 37
abbrev ϕe:Stmt:=top 38
abbrev ϑZ:Stmt:=top 39
abbrev ϕd:Stmt:=top 40
abbrev ϑU:Stmt:=top 41
abbrev ϕh:Stmt:=top 42
abbrev ϑa:Stmt:=top 43
abbrev ϕB:Stmt:=top 44
abbrev ϕg:Stmt:=top 45
abbrev ϑH:Stmt:=top 46
abbrev ϖ2:Stmt:=top 47
abbrev ϵX:Stmt:=top 48
structure Bi (mg:Str→Option Value):Prop where
 bool:mg "bool"=none
 dict:mg "dict"=none
 enumerate:mg "enumerate"=none
 int:mg "int"=none
 isinstance:mg "isinstance"=none
 len:mg "len"=none
 list:mg "list"=none
 max:mg "max"=none
 min:mg "min"=none
 range:mg "range"=none
 set:mg "set"=none
 sorted:mg "sorted"=none
 str:mg "str"=none
 tuple:mg "tuple"=none
 zip:mg "zip"=none
 BEGINS:∃t,mg "BEGINS"=some (.int 2 t)
 ENDS:∃t,mg "ENDS"=some (.int 4 t)
 INTO:∃t,mg "INTO"=some (.int 3 t)
 MOST_ROOMS:∃t,mg "MOST_ROOMS"=some (.int 200 t)
 OUT_OF:∃t,mg "OUT_OF"=some (.int 0 t)
 ROOMS:∃t,mg "ROOMS"=some (.int 1 t)
 SIGNS:∃t,mg "SIGNS"=some (.int 0 t)
 STEPS:∃t,mg "STEPS"=some (.int 3 t)
structure Xb (K:Frag) (mg:Str→Option Value) (ϖe ϖi:Addr):Prop where
 nm_NotPlain:mg "NotPlain"=some (.ref ϖe)
 nm_TooMany:mg "TooMany"=some (.ref ϖi)
 own_NotPlain:OwnX K mg "NotPlain" ϖe
 xc_NotPlain:XCls K ϖe
 own_TooMany:OwnX K mg "TooMany" ϖi
 xc_TooMany:XCls K ϖi
local macro_rules|`(tactic| walk_at "side")=>`(tactic| first|exact pz|exact⟨pz,pz⟩|exact .inr ⟨by decide,by decide⟩|exact⟨by omega,by omega⟩|exact .inl ⟨by omega,by omega⟩|exact .inr ⟨by omega,by omega⟩|(show(0:Int) < _;omega)|exact szl (by simp)|exact szl (by omega))
local macro_rules|`(tactic| walk_at "r")=>`(tactic| first|refine⟨_,rfl,?_⟩|refine⟨_,_,rfl,rfl,?_⟩|refine⟨rfl,?_⟩|refine⟨by walk_at "side",?_⟩)
local macro_rules|`(tactic| walk_at "rd")=>`(tactic| repeat walk_at "r")
def ϟH (lo hi:Int) (v:V):Prop:=∃n:Int,v=.int n∧lo≤n∧n≤hi
def ϵP (K:Frag):Sp:=fun vs H Q _=>∃p,vs=[.ref p]∧((∃ ys ks,SqL K H p ys∧Paired (KeyV K H) ks ys∧ks.length≤999∧∀H',Same H H'→Q (.bl (decide ks.Nodup)) H') ∨
 ∃ks:List Key,SqL K H p (ks.map kV)∧ks.length≤4000∧∀H',Same H H'→Q (.bl (decide ks.Nodup)) H')
def outs (s:Scr):List (List Key):=s.steps.map fun t=>[Sum.inl t.1,Sum.inr t.2.1]
def ϑw (s:Scr):List Key:=s.ends.map fun e=>Sum.inl e.1
def ϖO (s:Scr):Bool:=!decide (s.begins.length > 1) && decide (outs s).Nodup && decide (ϑw s).Nodup
def ϡf (K:Frag):Sp:=fun vs H Q _=>∃v s pb ps pe,vs=[v]∧ScV K H s v pb ps pe∧s.steps.length≤999∧s.ends.length≤999∧∀H',Same H H'→Q (.bl (ϖO s)) H'
theorem szl' {n:Nat} (h:n≤99999):n < sizeLine:=Nat.lt_of_lt_of_le (Nat.lt_succ_of_le h) (szl (by omega))
theorem KeyV.mono {K:Frag}{H H':Hp}{m:List Key}{v:V} (g:Grow H H'):KeyV K H m v→KeyV K H' m v:=fun⟨b,e,h⟩=>⟨b,e,g.seqT h⟩
theorem ϟb {n m:Nat}:decide (V.int (n:Int)=V.int (m:Int))=decide (n=m):=by
 by_cases h:n=m
 ·simp[h]
 ·rw[decide_eq_false h,decide_eq_false];intro e;injection e with e;exact h (by omega)
theorem ϰN {κ:Type} [DecidableEq κ] (ks:List κ):decide (ϑv ks.reverse=ks.length)=decide ks.Nodup:=by
 have h:=ϱ7 ks.reverse
 rw[List.length_reverse,(List.reverse_perm ks).nodup_iff] at h
 exact decide_eq_decide.mpr h
def Wd (x:Str):Prop:=x.length≤40∧∀c∈cl x,97≤c∧c≤122
structure OkS (pl:Bool) (s:Scr) (n:Nat):Prop where
 lb:s.begins.length≤n
 ls:s.steps.length≤n
 le:s.ends.length≤n
 mb:∀m∈s.begins,0≤m.1∧m.1 < s.rooms∧Wd m.2
 ms:∀t∈s.steps,0≤t.1∧t.1 < s.rooms∧(∃ c∈cl s.signs,t.2.1=⟨#[c]⟩)∧Wd t.2.2.1∧0≤t.2.2.2∧t.2.2.2 < s.rooms
 me:∀m∈s.ends,0≤m.1∧m.1 < s.rooms∧Wd m.2
 nb:s.begins.Nodup
 ns:s.steps.Nodup
 ne:s.ends.Nodup
 pb:pl=true→s.begins.length≤1
 po:pl=true→(s.steps.map fun t=>(t.1,t.2.1)).Nodup
 pe:pl=true→(s.ends.map (·.1)).Nodup
theorem ϰh {α:Type}{xs:List α}{x:α} (h:xs.Nodup) (hn:x∉xs):(xs++[x]).Nodup:=by
 rw[List.nodup_append]
 refine⟨h,by simp,fun a ha b hb=>?_⟩
 rw[List.mem_singleton] at hb
 subst hb
 intro e;subst e;exact hn ha
theorem ϖC {H0 H:Hp}{p:Addr}{o:HO} (g:Same H0 H) (h:H0 p=none):Same H0 (upd H p o):=fun b u q=>by rw[ϖp (ϖs q h)];exact g b u q
structure Apart (H0:Hp) (pb ps pe:Addr):Prop where
 nb:H0 pb=none
 ns:H0 ps=none
 ne:H0 pe=none
 bs:pb≠ps
 be:pb≠pe
 se:ps≠pe
def ϵx (ns:List Int) (k:Int):Int:=if k < ns.length then (ns[k.toNat]?).getD 0 else 0
def ϵA (K:Frag):Sp:=fun vs H Q _=>∃(a:Addr) (ns:List Int) (k:Int),vs=[.ref a,.int k]∧SqL K H a (ns.map V.int)∧0≤k∧Q (.int (ϵx ns k)) H
def ϝa:Sp:=fun vs H Q _=>∃c:Int,vs=[.int c]∧∀(x:Str) (H':Hp),Wd x→Same H H'→Q (.str x) H'
def NewS (K:Frag) (H H':Hp) (pl:Bool) (n:Nat) (s:Scr) (v:V) (pb ps pe:Addr):Prop:=Same H H'∧ScV K H' s v pb ps pe∧OkS pl s n∧0≤s.rooms∧s.rooms≤14∧1≤s.signs.length∧s.signs.length≤5∧(cl s.signs).Nodup∧(∀ c∈cl s.signs,97≤c∧c≤122)
def ScN (K:Frag) (H:Hp) (s:Scr) (v:V) (pb ps pe:Addr):Prop:=∃a xb xs xe,v=.ref a∧SqT K H a [.str s.signs,.int s.rooms,.ref pb,.ref ps,.ref pe]∧H pb=some (.lst xb)∧H ps=some (.lst xs)∧H pe=some (.lst xe) ∧
 Paired (MkV K H) s.begins xb∧Paired (StV K H) s.steps xs∧Paired (MkV K H) s.ends xe
theorem ScN.v {K:Frag}{H:Hp}{s:Scr}{v:V}{pb ps pe:Addr}:ScN K H s v pb ps pe→ScV K H s v pb ps pe
 |⟨a,xb,xs,xe,e,h1,h2,h3,h4,h5,h6,h7⟩=>⟨a,xb,xs,xe,e,h1,SqL.of h2,SqL.of h3,SqL.of h4,h5,h6,h7⟩
def ϲb (K:Frag):Sp:=fun vs H Q _=>∃v s pb ps pe,vs=[v]∧ScV K H s v pb ps pe∧∀v' H' pb' ps' pe',Same H H'→ScN K H' s v' pb' ps' pe'→Apart H pb' ps' pe'→Q v' H'
theorem ϡl (c:Nat):(⟨#[c]⟩:Str).length=1:=rfl
theorem ϕz (a b:Str):(a++b).length=a.length+b.length:=by
 rw[← ϖ6,ϖ5,List.length_append,ϖ6,ϖ6]
theorem cl_nil:∀c∈cl ("":Str),97≤c∧c≤122:=by
 intro c hc
 have e:cl ("":Str)=[]:=by decide +kernel
 rw[e] at hc;cases hc
theorem ϛ1 (c:Nat):cl ⟨#[c]⟩=[c]:=rfl
def ϝQ (g:Str):Prop:=1≤g.length∧g.length≤5∧(cl g).Nodup∧∀c∈cl g,97≤c∧c≤122
def isSgn (v:V):Prop:=∃g:Str,v=.str g∧ϝQ g
theorem ϰO {K:Frag}{H:Hp}{E:List Mk}{xe:List V}{m:Mk} (h:Paired (MkV K H) E xe):Reps K H (E.map dMk) xe:=ϰS (f:=dMk) (F:=MkV K H) (fun _ _ h=>MkV.rep h) h
theorem ϡy {K:Frag}{H:Hp}{E:List Stp}{xe:List V} (h:Paired (StV K H) E xe):Reps K H (E.map dSt) xe:=ϰS (f:=dSt) (F:=StV K H) (fun _ _ h=>StV.rep h) h
theorem ϖA {α:Type}{xs:List α}{i:Nat}{x:α} (h:xs[i]?=some x):xs.take (i+1)=xs.take i++[x]:=by rw[List.take_add_one,h];rfl
def inR (n:Nat) (i:Int):Prop:=0≤i∧i < n
instance (n:Nat) (i:Int):Decidable (inR n i):=inferInstanceAs (Decidable (_∧_))
def catS (ys:List Str):Str:=ys.foldl (·++·) ""
theorem ϝ8 (ys:List Str) (y:Str):catS (ys++[y])=catS ys++y:=by unfold catS;rw[List.foldl_append];rfl
theorem ϡg (x:Str):("":Str)++x=x:=ϱU (by rw[ϖ5,show cl ("":Str)=[] by decide +kernel,List.nil_append])
theorem ϛo:∀ys:List Str,(catS ys).length=(ys.map (·.length)).sum:=fun ys=>by
 have go:∀(ys:List Str) (a:Str),(ys.foldl (·++·) a).length=a.length+(ys.map (·.length)).sum:=by
  intro ys
  induction ys with
  |nil=>intro a;simp
  |cons y ys ih=>intro a;rw[List.foldl_cons,ih,ϕz,List.map_cons,List.sum_cons];omega
 have:=go ys ""
 have e:("":Str).length=0:=rfl
 unfold catS;omega
theorem ϡ0 (ys:List Str):Txt.join "" ys=catS ys:=by
 have go:∀(ys:List Str) (a:Array Nat),(⟨ys.foldl (fun acc p=>acc++("":Str).cps++p.cps) a⟩:Str)=ys.foldl (·++·) ⟨a⟩:=by
  intro ys
  induction ys with
  |nil=>intro a;rfl
  |cons y ys ih=>
   intro a
   rw[List.foldl_cons,List.foldl_cons,ih]
   have e:(⟨a++("":Str).cps++y.cps⟩:Str)=⟨a⟩++y:=ϱU (by
    show(a++("":Str).cps++y.cps).toList=cl (⟨a⟩++y)
    rw[ϖ5,Array.toList_append,Array.toList_append]
    have z:("":Str).cps.toList=[]:=by decide +kernel
    rw[z,List.append_nil])
   rw[e]
 cases ys with
 |nil=>rfl
 |cons y ys=>
  show(⟨ys.foldl (fun acc p=>acc++("":Str).cps++p.cps) y.cps⟩:Str)=_
  rw[go]
  unfold catS
  rw[List.foldl_cons,ϡg]
def ϝF (s:Scr):Prop:=(∀ m∈s.begins,m.2.length≤100)∧(∀ t∈s.steps,t.2.1.length≤100∧t.2.2.1.length≤100)∧∀m∈s.ends,m.2.length≤100
def GT (H H':Hp):Prop:=∀b xs,Rd H b (.tup xs)→Rd H' b (.tup xs)
theorem GT.trans {H H' H'':Hp} (a:GT H H') (b:GT H' H''):GT H H'':=fun c xs h=>b c xs (a c xs h)
theorem GT.of {H H':Hp} (g:Same H H'):GT H H':=fun b xs h=>by
 rcases h with h|⟨o,h⟩
 ·exact .inl (g _ _ h)
 ·exact .inr ⟨o,g _ _ h⟩
theorem ϕD {H:Hp}{p:Addr}{o:HO} (h:H p=some o) (n1:∀xs,o≠.tup xs) (n2:∀u xs,o≠.frz u (.tup xs)) (o':HO):GT H (upd H p o'):=fun b xs q=>by
 have hne:b≠p:=by
  rintro rfl
  rcases q with q|⟨u,q⟩
  ·rw[h] at q;exact n1 xs (Option.some.inj q)
  ·rw[h] at q;exact n2 u xs (Option.some.inj q)
 unfold Rd
 rw[ϖp hne]
 exact q
theorem ϱG {H:Hp}{p:Addr}{xs:List V} (h:H p=some (.lst xs)) (o':HO):GT H (upd H p o'):=ϕD h (fun _ z=>nomatch z) (fun _ _ z=>nomatch z) o'
theorem GT.seqT {K:Frag}{H H':Hp}{a:Addr}{xs:List V} (g:GT H H') (h:SqT K H a xs):SqT K H' a xs:=by
 rcases h with h|h
 ·exact .inl (g _ _ h)
 ·exact .inr h
theorem StV.gt {K:Frag}{H H':Hp}{m:Stp}{v:V} (g:GT H H'):StV K H m v→StV K H' m v:=fun⟨b,e,h⟩=>⟨b,e,g.seqT h⟩
theorem MkV.gt {K:Frag}{H H':Hp}{m:Mk}{v:V} (g:GT H H'):MkV K H m v→MkV K H' m v:=fun⟨b,e,h⟩=>⟨b,e,g.seqT h⟩
theorem ϡN (K:Frag) (H H':Hp) (t:Stp) (v:V) (g:GT H H') (h:StV K H t v):StV K H' t v:=StV.gt g h
structure Bk {κ α:Type} [DecidableEq κ] (R:Hp→α→V→Prop) (key:α→κ) (H0 H:Hp) (d:Addr) (ts:List α) (kvs:List (κ×V)):Prop where
 there:∀k v,valV kvs k=some v→∃l ys,v=.ref l∧H0 l=none∧l≠d∧H l=some (.lst ys)∧Paired (R H) (ts.filter fun t=>decide (key t=k)) ys∧0 < ys.length
 nokey:∀k,valV kvs k=none→ts.filter (fun t=>decide (key t=k))=[]
 inj:∀k k' l,valV kvs k=some (.ref l)→valV kvs k'=some (.ref l)→k=k'
 len:kvs.length≤ts.length
theorem ϑc {α:Type} (p:α→Bool) (xs:List α) (x:α):(xs++[x]).filter p=xs.filter p++if p x=true then [x] else []:=by
 rw[List.filter_append]
 congr 1
 by_cases h:p x=true
 ·rw[if_pos h,List.filter_cons_of_pos h];rfl
 ·rw[if_neg h,List.filter_cons_of_neg h];rfl
section
variable {κ α:Type} [DecidableEq κ] {R:Hp→α→V→Prop}{key:α→κ}{H0 H:Hp}{d:Addr}{ts:List α}{kvs:List (κ×V)}
theorem Bk.nil:Bk R key H0 H d [] ([]:List (κ×V)):=⟨fun k v h=>(by cases h),fun _ _=>rfl,fun k k' l h=>(by cases h),Nat.le_refl _⟩
theorem Bk.mono {H':Hp} (mono:∀(H H':Hp) (t:α) (v:V),GT H H'→R H t v→R H' t v) (b:Bk R key H0 H d ts kvs) (g:Same H H'):Bk R key H0 H' d ts kvs:=
 ⟨fun k v h=>let ⟨l,ys,e,h1,h2,h3,h4,h5⟩:=b.there k v h;⟨l,ys,e,h1,h2,g _ _ h3,ϖb (fun _ _=>mono _ _ _ _ (GT.of g)) h4,h5⟩,b.nokey,b.inj,b.len⟩
theorem Bk.put (mono:∀(H H':Hp) (t:α) (v:V),GT H H'→R H t v→R H' t v) (b:Bk R key H0 H d ts kvs) {t:α}{y:V}{l:Addr}{ys:List V} (hv:valV kvs (key t)=some (.ref l)) (hl:H l=some (.lst ys)) (hy:R H t y) :
  Bk R key H0 (upd H l (.lst (ys++[y]))) d (ts++[t]) kvs:=by
 have gr:=ϱG hl (.lst (ys++[y]))
 refine⟨fun k v h=>?_,fun k h=>?_,b.inj,by rw[List.length_append];exact Nat.le_add_right_of_le b.len⟩
 ·obtain⟨l',ys',rfl,h1,h2,h3,h4,h5⟩:=b.there k v h
  rw[ϑc]
  by_cases hk:key t=k
  ·subst hk
   rw[hv] at h;cases h
   rw[hl] at h3;cases h3
   rw[if_pos (by simp)]
   exact⟨l,ys++[y],rfl,h1,h2,ϖc,ϖo (ϖb (fun _ _=>mono _ _ _ _ gr) h4) (.cons (mono _ _ _ _ gr hy) .nil),by rw[List.length_append];omega⟩
  ·have hne:l'≠l:=fun e=>hk (b.inj _ _ l hv (e▸h))
   rw[if_neg (by simpa using hk),List.append_nil]
   exact⟨l',ys',rfl,h1,h2,by rw[ϖp hne];exact h3,ϖb (fun _ _=>mono _ _ _ _ gr) h4,h5⟩
 ·rw[ϑc,b.nokey k h]
  by_cases hk:key t=k
  ·subst hk;rw[hv] at h;cases h
  ·rw[if_neg (by simpa using hk)];rfl
theorem Bk.new (mono:∀(H H':Hp) (t:α) (v:V),GT H H'→R H t v→R H' t v) (b:Bk R key H0 H d ts kvs) {t:α}{y:V}{p:Addr}{o od:HO} (hv:valV kvs (key t)=none) (hp0:H0 p=none) (hpd:p≠d) (hd:H d=some od) (n1:∀xs,od≠.tup xs) (n2:∀u xs,od≠.frz u (.tup xs)) (hpn:∀k,valV kvs k≠some (.ref p)) (hp:H p=some (.lst [])) (hy:R H t y) :
  Bk R key H0 (upd (upd H d o) p (.lst [y])) d (ts++[t]) (putK kvs (key t) (.ref p)):=by
 have g1:=ϕD hd n1 n2 o
 have hp1:upd H d o p=some (.lst []):=by rw[ϖp hpd];exact hp
 have gr:=g1.trans (ϱG hp1 (.lst [y]))
 refine⟨fun k v h=>?_,fun k h=>?_,fun k k' l h h'=>?_,?_⟩
 ·rw[ϰt] at h
  rw[ϑc]
  by_cases hk:k=key t
  ·subst hk
   rw[if_pos rfl] at h;cases h
   rw[if_pos (by simp),b.nokey _ hv]
   exact⟨p,[y],rfl,hp0,hpd,ϖc,.cons (mono _ _ _ _ gr hy) .nil,Nat.zero_lt_one⟩
  ·rw[if_neg hk] at h
   obtain⟨l',ys',rfl,h1,h2,h3,h4,h5⟩:=b.there k v h
   have hne:l'≠p:=fun e=>hpn k (e▸h)
   rw[if_neg (by simpa using fun e=>hk (Eq.symm e)),List.append_nil]
   exact⟨l',ys',rfl,h1,h2,by rw[ϖp hne,ϖp h2];exact h3,ϖb (fun _ _=>mono _ _ _ _ gr) h4,h5⟩
 ·rw[ϰt] at h
  by_cases hk:k=key t
  ·rw[if_pos hk] at h;cases h
  ·rw[if_neg hk] at h
   rw[ϑc,b.nokey k h,if_neg (by simpa using fun e=>hk (Eq.symm e))];rfl
 ·rw[ϰt] at h h'
  by_cases hk:k=key t
  ·rw[if_pos hk] at h;cases h
   by_cases hk':k'=key t
   ·rw[hk,hk']
   ·rw[if_neg hk'] at h';exact absurd h' (hpn k')
  ·rw[if_neg hk] at h
   by_cases hk':k'=key t
   ·rw[if_pos hk'] at h';cases h';exact absurd h (hpn k)
   ·rw[if_neg hk'] at h';exact b.inj k k' l h h'
 ·have h1:=ϕm kvs (key t) (.ref p)
  have h2:=b.len
  rw[List.length_append,List.length_singleton];omega
end
def ϰ3 (t:Stp):List Key:=[Sum.inl t.1,Sum.inr t.2.1]
def mkKey (m:Mk):Key:=Sum.inl m.1
def StepD (K:Frag) (H0 H:Hp) (ts:List Stp) (v:V):Prop:=∃d kvs,v=.ref d∧H d=some (.dT kvs)∧Bk (StV K) ϰ3 H0 H d ts kvs
theorem StepD.mono {K:Frag}{H0 H H':Hp}{ts:List Stp}{v:V} (g:Same H H'):StepD K H0 H ts v→StepD K H0 H' ts v:=fun⟨d,kvs,e,h,b⟩=>⟨d,kvs,e,g _ _ h,b.mono (ϡN K) g⟩
def ϱy (K:Frag):Sp:=fun vs H Q _=>∃v s pb ps pe,vs=[v]∧ScV K H s v pb ps pe∧s.steps.length≤999∧∀v' H',Same H H'→StepD K H H' s.steps v'→Q v' H'
def optV:Option Str→V
 |none=>.non
 |some x=>.str x
def ϰl (s:Scr) (c:Int×Str) (k:Nat):Option (Int×Str):=match s.steps.filter (fun t=>decide (ϰ3 t=[Sum.inl c.1,Sum.inr (⟨#[k]⟩:Str)])) with
 |[]=>none
 |t::_=>some (t.2.2.2,c.2++t.2.2.1)
def goM (s:Scr) (c:Int×Str) (ks:List Nat):Option (Int×Str):=ks.foldl (fun o k=>o.bind fun c=>ϰl s c k) (some c)
def lastM (s:Scr) (c:Int×Str):Option Str:=match s.ends.filter (fun m=>decide (mkKey m=Sum.inl c.1)) with
 |[]=>none
 |m::_=>some (c.2++m.2)
theorem ϟ1 (s:Scr):∀ks:List Nat,ks.foldl (fun o k=>o.bind fun c=>ϰl s c k) none=none
 |[]=>rfl
 |_::ks=>ϟ1 s ks
theorem ϝD {s:Scr}{c:Int×Str}{ks:List Nat}{i:Nat}{k:Nat} (h:ks[i]?=some k):goM s c (ks.take (i+1))=(goM s c (ks.take i)).bind fun c=>ϰl s c k:=by
 unfold goM
 rw[ϖA h,List.foldl_append];rfl
theorem go_cut {s:Scr}{c:Int×Str}{ks:List Nat}{i:Nat} (h:goM s c (ks.take i)=none):goM s c ks=none:=by
 have e:ks=ks.take i++ks.drop i:=(List.take_append_drop i ks).symm
 unfold goM at *
 rw[e,List.foldl_append,h,ϟ1]
theorem Paired.head {α β:Type}{F:α→β→Prop}{l:List α}{m:List β} (h:Paired F l m) (n:0 < m.length):∃a l' b m',l=a::l'∧m=b::m'∧F a b:=by
 cases h with
 |nil=>cases n
 |cons r t=>exact⟨_,_,_,_,rfl,rfl,r⟩
theorem StepD.get {K:Frag}{H0 H:Hp}{ts:List Stp}{v:V}{r:Int}{g:Str}{p:Addr} (h:StepD K H0 H ts v) (hp:H p=some (.tup [V.int r,V.str g])) :
  ∃d o,v=.ref d∧DGet H d (.ref p) o∧(o=none→ts.filter (fun t=>decide (ϰ3 t=[Sum.inl r,Sum.inr g]))=[]) ∧
   ∀u,o=some u→∃l t l' y ys,u=.ref l∧H l=some (.lst (y::ys))∧ts.filter (fun t=>decide (ϰ3 t=[Sum.inl r,Sum.inr g]))=t::l'∧Paired (StV K H) (t::l') (y::ys):=by
 obtain⟨d,kvs,rfl,hd,bk⟩:=h
 refine⟨d,valV kvs [Sum.inl r,Sum.inr g],rfl,DGet.t (k:=[Sum.inl r,Sum.inr g]) hd hp,fun z=>bk.nokey _ z,fun u hu=>?_⟩
 obtain⟨l,ys,rfl,_,_,h3,h4,h5⟩:=bk.there _ _ hu
 obtain⟨t,l',y,ys',e1,rfl,_⟩:=Paired.head h4 h5
 rw[e1] at h4
 exact⟨l,t,l',y,ys',rfl,h3,e1,h4⟩
def ϱ5 (K:Frag) (c:Addr):Sp:=fun vs H Q E=>∃v s pb ps pe,vs=[v]∧ScV K H s v pb ps pe∧s.steps.length≤999∧s.ends.length≤999∧(ϖO s=true→∀H',Same H H'→Q .non H')∧(ϖO s=false→∀H',Same H H'→E (.ref c) none H')
theorem ϰu {α:Type}{p:α→Bool}{xs:List α}{t:α}{l:List α} (h:xs.filter p=t::l):t∈xs:=(List.mem_filter.mp (h▸List.mem_cons_self ..)).1
def addM {α:Type} [DecidableEq α] (acc:List α) (m:α):List α:=if m∈acc then acc else acc++[m]
theorem ϡM {κ:Type} [DecidableEq κ] (kvs:List (κ×V)) (k:κ) (v:V):(putK kvs k v).map (·.1)=addM (kvs.map (·.1)) k:=by
 have hm:(kvs.any fun kv=>decide (kv.1=k))=true↔k∈kvs.map (·.1):=by
  rw[List.any_eq_true,List.mem_map]
  exact⟨fun⟨x,h1,h2⟩=>⟨x,h1,of_decide_eq_true h2⟩,fun⟨x,h1,h2⟩=>⟨x,h1,decide_eq_true h2⟩⟩
 unfold putK addM
 by_cases h:k∈kvs.map (·.1)
 ·rw[if_pos (hm.mpr h),if_pos h,List.map_map]
  refine List.map_congr_left fun x _=>?_
  show(if x.1=k then _ else _:κ×V).1=x.1
  split
  ·rename_i e;first|exact e.symm|rfl
  ·rfl
 ·rw[if_neg (fun z=>h (hm.mp z)),if_neg h,List.map_append];rfl
theorem ϱI (a b c:Str):a++b++c=a++(b++c):=ϱU (by rw[ϖ5,ϖ5,ϖ5,ϖ5,List.append_assoc])
theorem str_nil (a:Str):a++""=a:=ϱU (by rw[ϖ5,show cl ("":Str)=[] by decide +kernel,List.append_nil])
def ϕE (K:Frag):Sp:=fun vs H Q _=>∃vS H0 s,∃r0:Int,∃x,vs=[vS,.int r0,.str x]∧StepD K H0 H s.steps vS∧ϝF s∧x.length≤100∧(goM s (r0,"") (cl x)=none→∀H',Same H H'→Q .non H') ∧
 ∀r u,goM s (r0,"") (cl x)=some (r,u)→u.length≤10000→∀p H',Same H H'→H' p=some (.tup [.int r,.str u])→Q (.ref p) H'
def ϱk:Sp:=fun vs H Q _=>∃c k:Int,vs=[.int c,.int k]∧∀n:Int,0≤n→n < 2147483587→Q (.int n) H
def ϛb (K:Frag):Sp:=fun vs H Q _=>∃(a:Addr) (ns:List Int) (k salt:Int),vs=[.ref a,.int k,.int salt]∧SqL K H a (ns.map V.int)∧0≤k∧0≤salt∧salt≤8000∧∀n:Int,Q (.int n) H
def isLet (v:V):Prop:=∃x:Str,v=.str x∧1≤x.length∧x.length≤26∧∀c∈cl x,97≤c∧c≤122
def ϵ4:Sp:=fun vs H Q _=>∃n:Int,vs=[.int n]∧∀(g:Str) (H':Hp),ϝQ g→Same H H'→Q (.str g) H'
theorem abc_cl:cl ("abcdefghijklmnopqrstuvwxyz":Str)=List.range' 97 26:=by decide +kernel
theorem abc_len:("abcdefghijklmnopqrstuvwxyz":Str).length=26:=by decide +kernel
theorem abc_at {j:Int} (h0:0≤j) (h1:j < 26):atI (cl ("abcdefghijklmnopqrstuvwxyz":Str)) j=some (97+j.toNat):=by
 obtain⟨n,rfl⟩:=Int.eq_ofNat_of_zero_le h0
 refine ϖ9 ?_
 rw[abc_cl,List.getElem?_range' (by omega)]
 simp
def sgC (m:Int) (k:Nat):Nat:=97+((m+7*(k:Int)) % 26).toNat
theorem ϝo:∀cs:List Nat,cl (catS (cs.map fun c=>(⟨#[c]⟩:Str)))=cs
 |[]=>by decide +kernel
 |c::cs=>by
  have go:∀(ys:List Str) (a:Str),cl (ys.foldl (·++·) a)=cl a++cl (catS ys):=by
   intro ys
   induction ys with
   |nil=>intro a;show cl a=cl a++cl ("":Str);rw[show cl ("":Str)=[] by decide +kernel,List.append_nil]
   |cons y ys ih=>
    intro a
    have h1:=ih (a++y)
    have h2:=ih (""++y)
    show cl (ys.foldl (·++·) (a++y))=cl a++cl (ys.foldl (·++·) (""++y))
    rw[h1,h2,ϖ5,ϖ5,show cl ("":Str)=[] by decide +kernel,List.nil_append,List.append_assoc]
  rw[List.map_cons]
  show cl ((cs.map fun c=>(⟨#[c]⟩:Str)).foldl (·++·) (""++⟨#[c]⟩))=_
  rw[go,ϝo cs,ϖ5,show cl ("":Str)=[] by decide +kernel,ϛ1];rfl
theorem ϲq (m:Int):∀n:Nat,n≤5→((List.range n).map (sgC m)).Nodup
 |0,_=>by simp
 |n+1,h=>by
  rw[List.range_succ,List.map_append]
  refine ϰh (ϲq m n (by omega)) fun hm=>?_
  obtain⟨k,hk,e⟩:=List.mem_map.mp hm
  have:=List.mem_range.mp hk
  unfold sgC at e
  have h1:=Int.emod_nonneg (m+7*(k:Int)) (show(26:Int)≠0 by decide)
  have h2:=Int.emod_nonneg (m+7*(n:Int)) (show(26:Int)≠0 by decide)
  omega
theorem sg_ok (m:Int) {n:Nat} (h1:1≤n) (h5:n≤5):ϝQ (catS (((List.range n).map (sgC m)).map fun c=>(⟨#[c]⟩:Str))):=by
 have e:=ϝo ((List.range n).map (sgC m))
 refine⟨?_,?_,?_,?_⟩
 ·rw[← ϖ6,e,List.length_map,List.length_range];exact h1
 ·rw[← ϖ6,e,List.length_map,List.length_range];exact h5
 ·rw[e];exact ϲq m n h5
 ·rw[e]
  intro c hc
  obtain⟨k,_,rfl⟩:=List.mem_map.mp hc
  unfold sgC
  have h1:=Int.emod_nonneg (m+7*(k:Int)) (show(26:Int)≠0 by decide)
  have h2:=Int.emod_lt_of_pos (m+7*(k:Int)) (show(0:Int) < 26 by decide)
  omega
def ϖN (n:Int) (t:Stp):Int:=if n=0 then t.1 else t.2.2.2
theorem side_at {n:Int} (h:n=0∨n=3) (t:Stp):atI [V.int t.1,V.str t.2.1,V.str t.2.2.1,V.int t.2.2.2] n=some (V.int (ϖN n t)):=by
 rcases h with rfl|rfl
 ·exact ϖ9 (j:=0) rfl
 ·exact ϖ9 (j:=3) rfl
def StL (K:Frag) (H:Hp) (a:Addr) (S:List Stp):Prop:=∃xs,SqL K H a xs∧Paired (StV K H) S xs
def keyP (n:Int) (S:List Stp) (q:Nat):Key:=Sum.inl ((S[q]?).elim 0 (ϖN n))
def qV (q:Nat):V:=.int (q:Int)
def isQ (_:Hp) (q:Nat) (v:V):Prop:=v=.int (q:Int)
def PlD (n:Int) (S:List Stp) (H H':Hp) (v:V):Prop:=∃d kvs,v=.ref d∧H d=none∧H' d=some (.dK kvs)∧Bk isQ (keyP n S) H H' d (List.range S.length) kvs
theorem ϰn (H H':Hp) (q:Nat) (v:V) (_:GT H H') (h:isQ H q v):isQ H' q v:=h
abbrev En:=Int×Nat×Option Nat
def ϖF (T:List En):List Int:=T.map (·.1)
def optN:Option Nat→V
 |none=>.non
 |some q=>.int (q:Int)
def EnV (K:Frag) (H:Hp) (e:En) (kv:Key×V):Prop:=kv.1=Sum.inl e.1∧∃t,kv.2=.ref t∧SqT K H t [.int (e.2.1:Int),optN e.2.2]
def EnOk (M:List Mk) (S:List Stp) (n f:Int) (T:List En) (i:Nat) (e:En):Prop:=
 (e.2.2=none∧∃m,M[e.2.1]?=some m∧m.1=e.1)∨(∃ q t,e.2.2=some q∧S[q]?=some t∧ϖN f t=e.1∧∃j e',j < i∧T[j]?=some e'∧e'.1=ϖN n t∧e'.2.1=e.2.1)
structure TI (M:List Mk) (S:List Stp) (n f:Int) (T:List En):Prop where
 nd:(ϖF T).Nodup
 en:∀i e,T[i]?=some e→EnOk M S n f T i e
theorem ϛq {α:Type}{xs:List α}{x y:α}{i:Nat} (h:(xs++[x])[i]?=some y):(i=xs.length∧y=x)∨xs[i]?=some y:=by
 by_cases hi:i < xs.length
 ·rw[List.getElem?_append_left hi] at h;exact .inr h
 ·rw[List.getElem?_append_right (by omega)] at h
  have:i-xs.length=0:=by
   by_cases z:i-xs.length=0
   ·exact z
   ·rw[List.getElem?_eq_none (by simp;omega)] at h;cases h
  rw[this] at h
  injection h with h
  exact .inl ⟨by omega,h.symm⟩
theorem ϛP {α:Type}{xs:List α}{x y:α}{i:Nat} (h:xs[i]?=some y):(xs++[x])[i]?=some y:=by
 rw[List.getElem?_append_left (List.getElem?_eq_some_iff.mp h).1];exact h
theorem TI.nil {M:List Mk}{S:List Stp}{n f:Int}:TI M S n f []:=⟨by simp[ϖF],fun i e h=>by simp at h⟩
theorem ϑ5 (T:List En) (e:En):ϖF (T++[e])=ϖF T++[e.1]:=by unfold ϖF;rw[List.map_append];rfl
theorem TI.snoc {M:List Mk}{S:List Stp}{n f:Int}{T:List En}{e:En} (h:TI M S n f T) (hn:e.1∉ϖF T) (he:EnOk M S n f T T.length e):TI M S n f (T++[e]):=by
 have up:∀i d,EnOk M S n f T i d→EnOk M S n f (T++[e]) i d:=fun i d h=>by
  rcases h with h|⟨q,t,h1,h2,h3,j,d',h4,h5,h6⟩
  ·exact .inl h
  ·exact .inr ⟨q,t,h1,h2,h3,j,d',h4,ϛP h5,h6⟩
 refine⟨by rw[ϑ5];exact ϰh h.nd hn,fun i d hd=>?_⟩
 rcases ϛq hd with⟨rfl,rfl⟩|hd
 ·exact up _ _ he
 ·exact up _ _ (h.en i d hd)
def DoneT (S:List Stp) (n f:Int) (T:List En) (r:Int):Prop:=∀t∈S,ϖN n t=r→ϖN f t∈ϖF T
theorem DoneT.snoc {S:List Stp}{n f:Int}{T:List En}{r:Int}{e:En} (h:DoneT S n f T r):DoneT S n f (T++[e]) r:=fun t ht hr=>by rw[ϑ5];exact List.mem_append_left _ (h t ht hr)
def TrD (K:Frag) (H:Hp) (d:Addr) (T:List En):Prop:=∃kvs,H d=some (.dK kvs)∧Paired (EnV K H) T kvs
structure TrOk (M:List Mk) (S:List Stp) (n f R:Int) (T:List En):Prop where
 ti:TI M S n f T
 marks:∀m∈M,m.1∈ϖF T
 clo:∀r∈ϖF T,DoneT S n f T r
 bnd:∀r∈ϖF T,0≤r∧r < R
 first:∀m∈M,∃e∈T,e.1=m.1∧e.2.2=none
def KB (d:Addr) (H H':Hp):Prop:=∀b o,b≠d→H b=some o→H' b=some o
theorem KB.same {d:Addr}{A H H':Hp} (k:KB d H H') (g:Same A H) (hd:A d=none):Same A H':=fun b o q=>k b o (ϖs q hd) (g b o q)
theorem KB.then {d:Addr}{H H' H'':Hp} (k:KB d H H') (g:Same H' H''):KB d H H'':=fun b o n q=>g b o (k b o n q)
theorem KB.here {d:Addr}{H H':Hp}{o:HO} (k:KB d H H'):KB d H (upd H' d o):=fun b u n q=>by rw[ϖp n];exact k b u n q
theorem KB.new {d p:Addr}{H H':Hp}{o:HO} (k:KB d H H') (hp:H p=none):KB d H (upd H' p o):=fun b u n q=>by rw[ϖp (ϖs q hp)];exact k b u n q
theorem ϱP:∀(N:Nat) (xs:List Int),xs.Nodup→(∀ x∈xs,0≤x∧x < (N:Int))→xs.length≤N
 |0,[],_,_=>Nat.le_refl _
 |0,x::xs,_,h=>by have:=h x (List.mem_cons_self ..);omega
 |N+1,xs,nd,h=>by
  have:=ϱP N (xs.filter (fun x=>decide (x≠(N:Int)))) (nd.filter _) (fun x hx=>by
   have hx:=List.mem_filter.mp hx
   have h1:=h x hx.1
   have h2:=of_decide_eq_true hx.2
   omega)
  by_cases c:(N:Int)∈xs
  ·have e:xs.length=(xs.erase (N:Int)).length+1:=by rw[List.length_erase_of_mem c];have:=List.length_pos_of_mem c;omega
   have e2:xs.erase (N:Int)=xs.filter (fun x=>decide (x≠(N:Int))):=by rw[List.Nodup.erase_eq_filter nd];congr 1;funext x;by_cases z:x=(N:Int)<;>simp[z]
   rw[e,e2];omega
  ·have e2:xs.filter (fun x=>decide (x≠(N:Int)))=xs:=List.filter_eq_self.mpr fun x hx=>decide_eq_true (fun z=>c (by rw[← z];exact hx))
   rw[e2] at this;omega
def ϖT (n:Int) (S:List Stp) (r:Int):List Nat:=(List.range S.length).filter fun q=>decide (keyP n S q=Sum.inl r)
theorem mem_placesOf {n:Int}{S:List Stp}{r:Int}{q:Nat}:q∈ϖT n S r↔∃t,S[q]?=some t∧ϖN n t=r:=by
 unfold ϖT
 rw[List.mem_filter,List.mem_range,decide_eq_true_eq]
 constructor
 ·rintro⟨h1,h2⟩
  refine⟨S[q],List.getElem?_eq_getElem h1,?_⟩
  unfold keyP at h2
  rw[List.getElem?_eq_getElem h1] at h2
  injection h2
 ·rintro⟨t,h1,h2⟩
  refine⟨(List.getElem?_eq_some_iff.mp h1).1,?_⟩
  unfold keyP
  rw[h1,← h2];rfl
theorem ϰ8 {H:Hp}:∀{qs:List Nat}{ys:List V},Paired (isQ H) qs ys→ys=qs.map qV
 |[],_,h=>by cases h;rfl
 |q::qs,_,h=>by
  cases h with
  |cons h1 h2=>rw[ϰ8 h2];unfold isQ at h1;rw[h1];rfl
theorem pl_get {n:Int}{S:List Stp}{H0 H:Hp}{pd l0:Addr}{kvs:List (Key×V)} (bk:Bk isQ (keyP n S) H0 H pd (List.range S.length) kvs) (r:Int) (e0:H l0=some (.lst [])) :
  ∃la,(valV kvs (Sum.inl r)).getD (.ref l0)=.ref la∧H la=some (.lst ((ϖT n S r).map qV))∧(la=l0∨(H0 la=none∧∃k,valV kvs k=some (.ref la))):=by
 cases hv:valV kvs (Sum.inl r) with
 |none=>
  refine⟨l0,rfl,?_,.inl rfl⟩
  have:ϖT n S r=[]:=bk.nokey _ hv
  rw[this];exact e0
 |some v=>
  obtain⟨l,ys,rfl,h1,h2,h3,h4,h5⟩:=bk.there _ _ hv
  refine⟨l,rfl,?_,.inr ⟨h1,_,hv⟩⟩
  rw[h3,ϰ8 h4];rfl
structure OkR (s:Scr):Prop where
 lb:s.begins.length≤999
 ls:s.steps.length≤19999
 le:s.ends.length≤999
 lr:s.rooms≤999
 mb:∀m∈s.begins,0≤m.1∧m.1 < s.rooms
 ms:∀t∈s.steps,0≤t.1∧t.1 < s.rooms∧0≤t.2.2.2∧t.2.2.2 < s.rooms
 me:∀m∈s.ends,0≤m.1∧m.1 < s.rooms
theorem OkR.side {s:Scr} (h:OkR s) {f:Int} (hf:f=0∨f=3):∀t∈s.steps,0≤ϖN f t∧ϖN f t < s.rooms:=fun t ht=>by
 obtain⟨h1,h2,h3,h4⟩:=h.ms t ht
 rcases hf with rfl|rfl
 ·exact⟨h1,h2⟩
 ·exact⟨h3,h4⟩
inductive Rch (M:List Mk) (S:List Stp) (n f:Int):Int→Prop
 |base {m:Mk} (h:m∈M):Rch M S n f m.1
 |step {t:Stp} (h:t∈S) (r:Rch M S n f (ϖN n t)):Rch M S n f (ϖN f t)
theorem TrOk.rch {M:List Mk}{S:List Stp}{n f R:Int}{T:List En} (h:TrOk M S n f R T) (r:Int):r∈ϖF T↔Rch M S n f r:=by
 constructor
 ·have go:∀(k i:Nat) (e:En),i < k→T[i]?=some e→Rch M S n f e.1:=by
   intro k
   induction k with
   |zero=>intro i e hi;omega
   |succ k ih=>
    intro i e hi he
    rcases h.ti.en i e he with⟨_,m,hm,hr⟩|⟨q,t,_,ht,hr,j,e',hj,he',hn,_⟩
    ·rw[← hr];exact .base (List.mem_of_getElem? hm)
    ·rw[← hr]
     refine .step (List.mem_of_getElem? ht) ?_
     rw[← hn];exact ih j e' (by omega) he'
  intro hr
  unfold ϖF at hr
  obtain⟨e,he,rfl⟩:=List.mem_map.mp hr
  obtain⟨i,hi⟩:=List.getElem?_of_mem he
  exact go (i+1) i e (by omega) hi
 ·intro hr
  induction hr with
  |base hm=>exact h.marks _ hm
  |step ht _ ih=>exact h.clo _ ih _ ht rfl
theorem ϵm:∀(xs ys:List Int),xs.Pairwise (· < ·)→ys.Pairwise (· < ·)→(∀ r,r∈xs↔r∈ys)→xs=ys
 |[],[],_,_,_=>rfl
 |[],y::ys,_,_,h=>by have:=(h y).mpr (List.mem_cons_self ..);cases this
 |x::xs,[],_,_,h=>by have:=(h x).mp (List.mem_cons_self ..);cases this
 |x::xs,y::ys,h1,h2,h=>by
  have a1:∀z,z∈xs→x < z:=(List.pairwise_cons.mp h1).1
  have a2:∀z,z∈ys→y < z:=(List.pairwise_cons.mp h2).1
  have e:x=y:=by
   rcases List.mem_cons.mp ((h x).mp (List.mem_cons_self ..)) with z|z
   ·exact z
   ·rcases List.mem_cons.mp ((h y).mpr (List.mem_cons_self ..)) with w|w
    ·exact w.symm
    ·have:=a1 _ w;have:=a2 _ z;omega
  subst e
  rw[ϵm xs ys (List.Pairwise.of_cons h1) (List.Pairwise.of_cons h2) fun r=>?_]
  constructor
  ·intro hr
   rcases List.mem_cons.mp ((h r).mp (List.mem_cons_of_mem _ hr)) with z|z
   ·subst z;have:=a1 _ hr;omega
   ·exact z
  ·intro hr
   rcases List.mem_cons.mp ((h r).mpr (List.mem_cons_of_mem _ hr)) with z|z
   ·subst z;have:=a2 _ hr;omega
   ·exact z
def Use (s:Scr) (r:Int):Prop:=Rch s.begins s.steps 0 3 r∧Rch s.ends s.steps 3 0 r
open Classical in
noncomputable def useL (s:Scr):List Int:=((List.range s.rooms.toNat).map fun k:Nat=>(k:Int)).filter fun r=>decide (Use s r)
theorem ϱn:∀n:Nat,((List.range n).map fun k:Nat=>(k:Int)).Pairwise (· < ·)
 |0=>by simp
 |n+1=>by
  rw[List.range_succ,List.map_append,List.pairwise_append]
  refine⟨ϱn n,by simp,fun a ha b hb=>?_⟩
  obtain⟨k,hk,rfl⟩:=List.mem_map.mp ha
  have:=List.mem_range.mp hk
  have e:b=(n:Int):=by simpa using hb
  subst e
  show(k:Int) < n
  omega
theorem ϱz (s:Scr):(useL s).Pairwise (· < ·):=(ϱn _).filter _
theorem rch_bnd {M:List Mk}{S:List Stp}{n f R:Int} (hM:∀m∈M,0≤m.1∧m.1 < R) (hS:∀t∈S,0≤ϖN f t∧ϖN f t < R) {r:Int} (h:Rch M S n f r):0≤r∧r < R:=by
 cases h with
 |base hm=>exact hM _ hm
 |step ht _=>exact hS _ ht
open Classical in
theorem ϡT {s:Scr} (ok:OkR s) (r:Int):r∈useL s↔Use s r:=by
 unfold useL
 rw[List.mem_filter,decide_eq_true_eq]
 refine⟨fun h=>h.2,fun h=>⟨?_,h⟩⟩
 obtain⟨h1,h2⟩:=rch_bnd ok.mb (ok.side (.inr rfl)) h.1
 exact List.mem_map.mpr ⟨r.toNat,List.mem_range.mpr (by omega),by omega⟩
theorem useL_eq {s:Scr} (ok:OkR s) {T1 T2:List En} (h1:TrOk s.begins s.steps 0 3 s.rooms T1) (h2:TrOk s.ends s.steps 3 0 s.rooms T2) {ns:List Int} (hp:ns.Perm ((ϖF T1).filter fun r=>decide (r∈ϖF T2))) (hs:ns.Pairwise (·≤·)):ns=useL s:=by
 have nd:ns.Nodup:=hp.nodup_iff.mpr (h1.ti.nd.filter _)
 refine ϵm _ _ ((hs.and nd).imp fun {a b} z=>by have:=z.1;have:=z.2;omega) (ϱz s) fun r=>?_
 rw[hp.mem_iff,List.mem_filter,decide_eq_true_eq,h1.rch,h2.rch,ϡT ok]
 exact Iff.rfl
def numK:List Int→Nat→List (Key×V)
 |[],_=>[]
 |u::us,k=>(Sum.inl u,.int (k:Int))::numK us (k+1)
def ϖI (us:List Int) (r:Int):Option Nat:=us.idxOf? r
def ϕr (us:List Int) (M:List Mk):List Mk:=M.filterMap fun m=>(ϖI us m.1).map fun k=>((k:Int),m.2)
def inUs (us:List Int) (t:Stp):Bool:=(ϖI us t.1).isSome && (ϖI us t.2.2.2).isSome
def ϲ_ (us:List Int) (t:Stp):Stp:=(((ϖI us t.1).getD 0:Nat),t.2.1,t.2.2.1,((ϖI us t.2.2.2).getD 0:Nat))
def ϱJ (us:List Int) (S:List Stp):List Stp:=(S.filter (inUs us)).map (ϲ_ us)
theorem ϰL (us:List Int) (M:List Mk):(ϕr us M).length≤M.length:=List.length_filterMap_le _ _
noncomputable def ϑN (s:Scr):Scr:=⟨s.signs,((useL s).length:Int),ϕr (useL s) s.begins,ϱJ (useL s) s.steps,ϕr (useL s) s.ends⟩
theorem ϰT {us:List Int}{r u:Int} (hn:(us++[u]).Nodup):ϖI us u=none:=by
 unfold ϖI
 rw[List.idxOf?_eq_none_iff]
 intro h
 exact(List.nodup_append.mp hn).2.2 u h u (by simp) rfl
structure WdL (s:Scr) (L:Nat):Prop where
 wb:∀m∈s.begins,m.2.length≤L
 ws:∀t∈s.steps,t.2.2.1.length≤L
 we:∀m∈s.ends,m.2.length≤L
def keyT (t:Stp):List Key:=[Sum.inl t.1,Sum.inr t.2.1]
def EnS (K:Frag) (H:Hp) (t:Stp) (kv:List Key×V):Prop:=kv.1=keyT t∧∃b,kv.2=.ref b∧SqT K H b [.str t.2.2.1,.int t.2.2.2]
theorem EnS.gt {K:Frag}{H H':Hp}{t:Stp}{kv:List Key×V} (g:GT H H'):EnS K H t kv→EnS K H' t kv:=fun⟨e,b,e2,h⟩=>⟨e,b,e2,g.seqT h⟩
theorem ϵo {κ α:Type} [DecidableEq κ] {R:α→κ×V→Prop}{k:κ}{v:V}{t:α} (ht:R t (k,v)) {S:List α}{kvs:List (κ×V)} (h:Paired R S kvs):∃S',Paired R S' (putK kvs k v)∧∀x∈S',x∈S∨x=t:=by
 unfold putK
 split
 ·have go:∀{S:List α}{kvs:List (κ×V)},Paired R S kvs→∃S',Paired R S' (kvs.map fun kv=>if kv.1=k then (kv.1,v) else kv)∧∀x∈S',x∈S∨x=t:=fun h=>by
   induction h with
   |nil=>exact⟨[],.nil,fun x hx=>nomatch hx⟩
   |@cons a kv as ks r _ ih=>
    obtain⟨S',h1,h2⟩:=ih
    by_cases c:kv.1=k
    ·refine⟨t::S',?_,fun x hx=>?_⟩
     ·rw[List.map_cons,if_pos c,c];exact .cons ht h1
     ·rcases List.mem_cons.mp hx with z|z
      ·exact .inr z
      ·exact(h2 x z).imp (List.mem_cons_of_mem _) id
    ·refine⟨a::S',?_,fun x hx=>?_⟩
     ·rw[List.map_cons,if_neg c];exact .cons r h1
     ·rcases List.mem_cons.mp hx with z|z
      ·exact .inl (z▸List.mem_cons_self ..)
      ·exact(h2 x z).imp (List.mem_cons_of_mem _) id
  exact go h
 ·exact⟨S++[t],ϖo h (.cons ht .nil),fun x hx=>(List.mem_append.mp hx).imp id List.mem_singleton.mp⟩
theorem put_nd {κ:Type} [DecidableEq κ] {kvs:List (κ×V)}{k:κ}{v:V} (h:(kvs.map (·.1)).Nodup):((putK kvs k v).map (·.1)).Nodup:=by
 rw[ϡM]
 unfold addM
 split
 ·exact h
 ·exact ϰh h ‹_›
theorem put_le {κ:Type} [DecidableEq κ] (kvs:List (κ×V)) (k:κ) (v:V):(putK kvs k v).length≤kvs.length+1:=by
 have:=congrArg List.length (ϡM kvs k v)
 rw[List.length_map] at this
 rw[this]
 unfold addM
 split<;>simp
def EnM (m:Mk) (kv:Key×V):Prop:=kv=(Sum.inl m.1,.str m.2)
theorem ϱB {κ α:Type}{R:α→κ×V→Prop}{f:α→κ} (hf:∀a kv,R a kv→kv.1=f a) {S:List α}{kvs:List (κ×V)} (h:Paired R S kvs):kvs.map (·.1)=S.map f:=by
 induction h with
 |nil=>rfl
 |cons r _ ih=>rw[List.map_cons,List.map_cons,hf _ _ r,ih]
structure PlI (K:Frag) (H0 H:Hp) (ds de:Addr) (g:Str) (r:Int) (n:Nat):Prop where
 same:Same H0 H
 ex:∃(S:List Stp) (kvs:List (List Key×V)) (E:List Mk) (kve:List (Key×V)),H ds=some (.dT kvs)∧H de=some (.dK kve)∧Paired (EnS K H) S kvs∧Paired EnM E kve∧(kvs.map (·.1)).Nodup∧(kve.map (·.1)).Nodup∧kvs.length≤n∧kve.length≤n ∧
  (∀ t∈S,0≤t.1∧t.1 < r∧(∃ c∈cl g,t.2.1=⟨#[c]⟩)∧Wd t.2.2.1∧0≤t.2.2.2∧t.2.2.2 < r)∧∀m∈E,0≤m.1∧m.1 < r∧Wd m.2
theorem PlI.mono {K:Frag}{H0 H H':Hp}{ds de:Addr}{g:Str}{r:Int}{n m:Nat} (h:PlI K H0 H ds de g r n) (s:Same H H') (le:n≤m):PlI K H0 H' ds de g r m:=by
 obtain⟨s0,S,kvs,E,kve,h1,h2,h3,h4,h5,h6,h7,h8,h9,h10⟩:=h
 exact⟨s0.trans s,S,kvs,E,kve,s _ _ h1,s _ _ h2,ϖb (fun _ _=>EnS.gt (GT.of s)) h3,h4,h5,h6,Nat.le_trans h7 le,Nat.le_trans h8 le,h9,h10⟩
theorem ϝw {α:Type}{xs:List α} (h:xs.length≤1):xs.Nodup:=by
 match xs,h with
 |[],_=>exact List.nodup_nil
 |[x],_=>simp
 |x::y::r,h=>simp at h
theorem ϛD {K:Frag}{H:Hp}{S:List Stp}{kvs:List (List Key×V)} (h:Paired (EnS K H) S kvs) (nd:(kvs.map (·.1)).Nodup):(S.map fun t=>(t.1,t.2.1)).Nodup:=by
 rw[ϱB (f:=keyT) (fun t kv h=>h.1) h] at nd
 have e:S.map keyT=(S.map fun t=>(t.1,t.2.1)).map (fun p=>[Sum.inl p.1,Sum.inr p.2]):=by rw[List.map_map];rfl
 rw[e] at nd
 exact List.Pairwise.of_map _ (fun a b z y=>z (by rw[y])) nd
inductive Rc (rs:List Int) (ms:List (Int×Int)):Int→Prop
 |base {r:Int} (h:r∈rs):Rc rs ms r
 |step {m:Int×Int} (h:m∈ms) (q:Rc rs ms m.1):Rc rs ms m.2
open Classical in
noncomputable def useN (s:Scr) (n:Nat):List Int:=((List.range n).map fun k:Nat=>(k:Int)).filter fun r=>decide (Use s r)
open Classical in
open Classical in
open Classical in
theorem is_int {K:Frag}:kitOne K (.type "int") (.type "int")=some true:=rfl
theorem is_intb {K:Frag}:kitOne K (.type "int") (.type "bool")=some false:=rfl
def ϵQ (K:Frag):Sp:=fun vs H Q _=>∃i:Int,vs=[.int i]∧Q (.bl true) H
theorem ϟu {us:List Int}{r:Int} (h:r∈us):∃j,ϖI us r=some j∧us[j]?=some r∧∀m,m < j→us[m]?≠some r:=by
 cases e:ϖI us r with
 |none=>
  unfold ϖI at e
  rw[List.idxOf?_eq_none_iff] at e
  exact absurd h e
 |some j=>
  unfold ϖI at e
  obtain⟨h1,h2,h3⟩:=List.idxOf?_eq_some_iff.mp e
  refine⟨j,rfl,by rw[List.getElem?_eq_getElem h1,h2],fun m hm z=>?_⟩
  obtain⟨z1,z2⟩:=List.getElem?_eq_some_iff.mp z
  exact h3 m hm z2
def Kd (v:V) (c:Int):Prop:=(c=0∧∃i,v=.int i)∨(c=1∧∃x,v=.str x)
def ϡs (K:Frag):Sp:=fun vs H Q _=>∃v s pb ps pe,vs=[v]∧ScV K H s v pb ps pe∧∀H',Same H H'→Q (.bl true) H'
theorem ϱS {α β:Type}{R:α→β→Prop}{as:List α}{bs:List β} (h:Paired R as bs):∀b∈bs,∃a∈as,R a b:=by
 induction h with
 |nil=>intro b hb;cases hb
 |cons r _ ih=>
  intro b hb
  rcases List.mem_cons.mp hb with z|z
  ·subst z;exact⟨_,List.mem_cons_self ..,r⟩
  ·obtain⟨a,h1,h2⟩:=ih b z
   exact⟨a,List.mem_cons_of_mem _ h1,h2⟩
theorem ϟQ {α β:Type}{R:α→β→Prop}{as:List α}{bs:List β} (h:Paired R as bs) {i:Nat}{a:α}{b:β} (ha:as[i]?=some a) (hb:bs[i]?=some b):R a b:=by
 obtain⟨a',h1,h2⟩:=ϖr h hb
 rw[ha] at h1
 cases h1
 exact h2
def RowOk (K:Frag) (H:Hp) (p:Addr) (cs:List Int):Prop:=∃X D',SqL K H p X∧Rep K H (.lst D') (.ref p)∧∀x∈X,∃b vs d,x=.ref b∧SqT K H b vs∧Paired Kd vs cs∧Rep K H d x∧isT d "tuple"=true
theorem RowOk.mk {K:Frag}{H:Hp}{p:Addr}{M:List Mk}{X:List V} (h1:SqL K H p X) (h2:Paired (MkV K H) M X):RowOk K H p [0,1]:=
 ⟨X,M.map dMk,h1,ϖZ h1 (ϰO (m:=(0,"")) h2),fun x hx=>by
  obtain⟨m,_,hm⟩:=ϱS h2 x hx
  obtain⟨b,rfl,hb⟩:=id hm
  exact⟨b,_,dMk m,rfl,hb,.cons (.inl ⟨rfl,_,rfl⟩) (.cons (.inr ⟨rfl,_,rfl⟩) .nil),MkV.rep hm,rfl⟩⟩
theorem RowOk.st {K:Frag}{H:Hp}{p:Addr}{S:List Stp}{X:List V} (h1:SqL K H p X) (h2:Paired (StV K H) S X):RowOk K H p [0,1,1,0]:=
 ⟨X,S.map dSt,h1,ϖZ h1 (ϡy h2),fun x hx=>by
  obtain⟨t,_,ht⟩:=ϱS h2 x hx
  obtain⟨b,rfl,hb⟩:=id ht
  exact⟨b,_,dSt t,rfl,hb,.cons (.inl ⟨rfl,_,rfl⟩) (.cons (.inr ⟨rfl,_,rfl⟩) (.cons (.inr ⟨rfl,_,rfl⟩) (.cons (.inl ⟨rfl,_,rfl⟩) .nil))),StV.rep ht,rfl⟩⟩
theorem ϕC {us:List Int}{r:Int}{j:Nat} (h:ϖI us r=some j):us[j]?=some r:=by
 unfold ϖI at h
 obtain⟨h1,h2,_⟩:=List.idxOf?_eq_some_iff.mp h
 rw[List.getElem?_eq_getElem h1,h2]
theorem ϰE {us:List Int}{r r':Int}{j:Nat} (h:ϖI us r=some j) (h':ϖI us r'=some j):r=r':=by
 have h1:=ϕC h
 rw[ϕC h'] at h1
 injection h1 with h1
 exact h1.symm
theorem mem_keptM {us:List Int}{M:List Mk}{m:Mk}:m∈ϕr us M↔∃m0∈M,∃j:Nat,ϖI us m0.1=some j∧m=((j:Int),m0.2):=by
 unfold ϕr
 rw[List.mem_filterMap]
 constructor
 ·rintro⟨m0,h0,h1⟩
  cases hp:ϖI us m0.1 with
  |none=>rw[hp] at h1;cases h1
  |some j=>
   rw[hp] at h1
   injection h1 with h1
   exact⟨m0,h0,j,hp,h1.symm⟩
 ·rintro⟨m0,h0,j,hj,rfl⟩
  exact⟨m0,h0,by rw[hj];rfl⟩
theorem mem_keptS {us:List Int}{S:List Stp}{t:Stp}:t∈ϱJ us S↔∃u∈S,∃j k:Nat,ϖI us u.1=some j∧ϖI us u.2.2.2=some k∧t=((j:Int),u.2.1,u.2.2.1,(k:Int)):=by
 unfold ϱJ
 rw[List.mem_map]
 constructor
 ·rintro⟨u,hu,rfl⟩
  obtain⟨h1,h2⟩:=List.mem_filter.mp hu
  unfold inUs at h2
  rw[Bool.and_eq_true,Option.isSome_iff_exists,Option.isSome_iff_exists] at h2
  obtain⟨⟨j,hj⟩,⟨k,hk⟩⟩:=h2
  exact⟨u,h1,j,k,hj,hk,by unfold ϲ_;rw[hj,hk];rfl⟩
 ·rintro⟨u,hu,j,k,hj,hk,rfl⟩
  exact⟨u,List.mem_filter.mpr ⟨hu,by unfold inUs;rw[hj,hk];rfl⟩,by unfold ϲ_;rw[hj,hk];rfl⟩
theorem ϟm {us:List Int}:∀{M:List Mk},(M.map (·.1)).Nodup→((ϕr us M).map (·.1)).Nodup
 |[],_=>List.nodup_nil
 |m::M,nd=>by
  rw[List.map_cons,List.nodup_cons] at nd
  have ih:=ϟm (us:=us) nd.2
  cases h:ϖI us m.1 with
  |none=>
   have e:ϕr us (m::M)=ϕr us M:=by unfold ϕr;rw[List.filterMap_cons,h];rfl
   rw[e];exact ih
  |some j=>
   have e:ϕr us (m::M)=((j:Int),m.2)::ϕr us M:=by unfold ϕr;rw[List.filterMap_cons,h];rfl
   rw[e,List.map_cons,List.nodup_cons]
   refine⟨fun hj=>?_,ih⟩
   obtain⟨m',hm',e'⟩:=List.mem_map.mp hj
   obtain⟨m0,h0,k,hk,rfl⟩:=mem_keptM.mp hm'
   have ek:k=j:=by have:((k:Nat):Int)=(j:Int):=e';omega
   subst ek
   exact nd.1 (List.mem_map.mpr ⟨m0,h0,ϰE hk h⟩)
theorem ϡX {us:List Int}:∀{S:List Stp},(S.map fun t=>(t.1,t.2.1)).Nodup→((ϱJ us S).map fun t=>(t.1,t.2.1)).Nodup
 |[],_=>List.nodup_nil
 |u::S,nd=>by
  rw[List.map_cons,List.nodup_cons] at nd
  have ih:=ϡX (us:=us) nd.2
  by_cases h:inUs us u=true
  ·have e:ϱJ us (u::S)=ϲ_ us u::ϱJ us S:=by unfold ϱJ;rw[List.filter_cons_of_pos h];rfl
   rw[e,List.map_cons,List.nodup_cons]
   refine⟨fun hj=>?_,ih⟩
   obtain⟨t',ht',e'⟩:=List.mem_map.mp hj
   obtain⟨u0,h0,j,k,hj0,hk0,rfl⟩:=mem_keptS.mp ht'
   unfold inUs at h
   rw[Bool.and_eq_true,Option.isSome_iff_exists] at h
   obtain⟨⟨j1,hj1⟩,_⟩:=h
   unfold ϲ_ at e'
   rw[hj1] at e'
   injection e' with e1 e2
   have ek:j=j1:=by have:((j:Nat):Int)=(j1:Int):=e1;omega
   subst ek
   exact nd.1 (List.mem_map.mpr ⟨u0,h0,by rw[ϰE hj0 hj1];exact Prod.ext rfl e2⟩)
  ·have e:ϱJ us (u::S)=ϱJ us S:=by unfold ϱJ;rw[List.filter_cons_of_neg h]
   rw[e];exact ih
theorem outs_nd {s:Scr}:(outs s).Nodup↔(s.steps.map fun t=>(t.1,t.2.1)).Nodup:=by
 have e:outs s=(s.steps.map fun t=>(t.1,t.2.1)).map fun p=>[Sum.inl p.1,Sum.inr p.2]:=by unfold outs;rw[List.map_map];rfl
 rw[e]
 constructor
 ·intro h;exact List.Pairwise.of_map _ (fun a b z y=>z (by rw[y])) h
 ·intro h
  refine List.Pairwise.map _ (fun a b z y=>z ?_) h
  injection y with y1 y2
  injection y1 with y1
  injection y2 with y2
  injection y2 with y2
  exact Prod.ext y1 y2
theorem lasts_nd {s:Scr}:(ϑw s).Nodup↔(s.ends.map (·.1)).Nodup:=by
 have e:ϑw s=(s.ends.map (·.1)).map Sum.inl:=by unfold ϑw;rw[List.map_map];rfl
 rw[e]
 exact⟨fun h=>List.Pairwise.of_map _ (fun a b z y=>z (by rw[y])) h,fun h=>List.Pairwise.map _ (fun a b z y=>z (by injection y)) h⟩
theorem plain_iff {s:Scr}:ϖO s=true↔s.begins.length≤1∧(s.steps.map fun t=>(t.1,t.2.1)).Nodup∧(s.ends.map (·.1)).Nodup:=by
 unfold ϖO
 rw[Bool.and_eq_true,Bool.and_eq_true,decide_eq_true_eq,decide_eq_true_eq,outs_nd,lasts_nd,Bool.not_eq_true',decide_eq_false_iff_not,and_assoc]
 exact⟨fun⟨a,b⟩=>⟨by omega,b⟩,fun⟨a,b⟩=>⟨by omega,b⟩⟩
theorem ϰ_ {s:Scr} (h:ϖO s=true):ϖO (ϑN s)=true:=by
 rw[plain_iff] at h⊢
 exact⟨Nat.le_trans (ϰL _ _) h.1,ϡX h.2.1,ϟm h.2.2⟩
theorem trim_wl {s:Scr}{L:Nat} (wl:WdL s L):WdL (ϑN s) L:=by
 refine⟨fun m hm=>?_,fun t ht=>?_,fun m hm=>?_⟩
 ·obtain⟨m0,h0,j,_,rfl⟩:=mem_keptM.mp hm;exact wl.wb m0 h0
 ·obtain⟨u,h0,j,k,_,_,rfl⟩:=mem_keptS.mp ht;exact wl.ws u h0
 ·obtain⟨m0,h0,j,_,rfl⟩:=mem_keptM.mp hm;exact wl.we m0 h0
theorem ϲN {s:Scr} (ok:OkR s) {r:Int} (h:Use s r):∃j,ϖI (useL s) r=some j:=by
 obtain⟨j,hj,_⟩:=ϟu ((ϡT ok r).mpr h)
 exact⟨j,hj⟩
abbrev keyR (N r:Int):List Key:=[Sum.inl (r / N),Sum.inl (r % N)]
abbrev tupR (N r:Int):HO:=.tup [V.int (r / N),V.int (r % N)]
theorem ϰg {N r r':Int} (h:keyR N r=keyR N r'):r=r':=by
 unfold keyR at h
 injection h with h1 h2
 injection h2 with h2 _
 injection h1 with h1
 injection h2 with h2
 have e1:=Int.emod_add_mul_ediv r N
 have e2:=Int.emod_add_mul_ediv r' N
 rw[h1,h2] at e1
 omega
def RmV (N:Int) (H:Hp) (r:Int) (v:V):Prop:=∃b,v=.ref b∧H b=some (tupR N r)
def MkP (N:Int) (K:Frag) (H:Hp) (m:Mk) (v:V):Prop:=∃b c,v=.ref b∧SqT K H b [.ref c,.str m.2]∧H c=some (tupR N m.1)
def StP (N:Int) (K:Frag) (H:Hp) (t:Stp) (v:V):Prop:=∃b c e,v=.ref b∧SqT K H b [.ref c,.str t.2.1,.str t.2.2.1,.ref e]∧H c=some (tupR N t.1)∧H e=some (tupR N t.2.2.2)
theorem RmV.mono {N:Int}{H H':Hp}{r:Int}{v:V} (g:Same H H'):RmV N H r v→RmV N H' r v:=fun⟨b,e,h⟩=>⟨b,e,g _ _ h⟩
theorem MkP.mono {N:Int}{K:Frag}{H H':Hp}{m:Mk}{v:V} (g:Same H H'):MkP N K H m v→MkP N K H' m v:=fun⟨b,c,e,h,h1⟩=>⟨b,c,e,(Same.grow g).seqT h,g _ _ h1⟩
theorem StP.mono {N:Int}{K:Frag}{H H':Hp}{t:Stp}{v:V} (g:Same H H'):StP N K H t v→StP N K H' t v:=fun⟨b,c,e,h0,h,h1,h2⟩=>⟨b,c,e,h0,(Same.grow g).seqT h,g _ _ h1,g _ _ h2⟩
def MkG (N:Int) (K:Frag) (H:Hp) (m:Mk) (v:V):Prop:=∃b c,∃ys:List V,v=.ref b∧SqT K H b (.ref c::ys)∧H c=some (tupR N m.1)
def StG (N:Int) (K:Frag) (H:Hp) (t:Stp) (v:V):Prop:=∃b c e,∃x y:V,v=.ref b∧SqT K H b [.ref c,x,y,.ref e]∧H c=some (tupR N t.1)∧H e=some (tupR N t.2.2.2)
theorem StG.mono {N:Int}{K:Frag}{H H':Hp}{t:Stp}{v:V} (g:Same H H'):StG N K H t v→StG N K H' t v:=fun⟨b,c,e,x,y,h0,h,h1,h2⟩=>⟨b,c,e,x,y,h0,(Same.grow g).seqT h,g _ _ h1,g _ _ h2⟩
theorem MkP.g {N:Int}{K:Frag}{H:Hp}{m:Mk}{v:V}:MkP N K H m v→MkG N K H m v:=fun⟨b,c,e,h,h1⟩=>⟨b,c,_,e,h,h1⟩
theorem StP.g {N:Int}{K:Frag}{H:Hp}{t:Stp}{v:V}:StP N K H t v→StG N K H t v:=fun⟨b,c,e,h0,h,h1,h2⟩=>⟨b,c,e,_,_,h0,h,h1,h2⟩
theorem ϡ4 {N:Int}{H:Hp}{t:Stp}{c e:Addr}{x y:V}{n:Int} (hn:n=0∨n=3) (h1:H c=some (tupR N t.1)) (h2:H e=some (tupR N t.2.2.2)):∃r,atI [V.ref c,x,y,V.ref e] n=some (V.ref r)∧H r=some (tupR N (ϖN n t)):=by
 rcases hn with rfl|rfl
 ·exact⟨c,ϖ9 (j:=0) rfl,h1⟩
 ·exact⟨e,ϖ9 (j:=3) rfl,h2⟩
def MkLP (N:Int) (K:Frag) (H:Hp) (a:Addr) (M:List Mk):Prop:=∃xs,SqL K H a xs∧Paired (MkP N K H) M xs
def StLP (N:Int) (K:Frag) (H:Hp) (a:Addr) (S:List Stp):Prop:=∃xs,SqL K H a xs∧Paired (StP N K H) S xs
def MkLG (N:Int) (K:Frag) (H:Hp) (a:Addr) (M:List Mk):Prop:=∃xs,SqL K H a xs∧Paired (MkG N K H) M xs
def StLG (N:Int) (K:Frag) (H:Hp) (a:Addr) (S:List Stp):Prop:=∃xs,SqL K H a xs∧Paired (StG N K H) S xs
def ϰP (N n:Int) (S:List Stp) (q:Nat):List Key:=keyR N ((S[q]?).elim 0 (ϖN n))
def PlDP (N n:Int) (S:List Stp) (H H':Hp) (v:V):Prop:=∃d kvs,v=.ref d∧H d=none∧H' d=some (.dT kvs)∧Bk isQ (ϰP N n S) H H' d (List.range S.length) kvs
def ϰJ (K:Frag):Sp:=fun vs H Q _=>∃a n,vs=[.ref a,.int n]∧(n=0∨n=3)∧((∃ S,StL K H a S∧S.length≤999∧∀v H',Same H H'→PlD n S H H' v→Q v H') ∨
 ∃N S,StLG N K H a S∧S.length≤19999∧∀v H',Same H H'→PlDP N n S H H' v→Q v H')
def EnVP (N:Int) (K:Frag) (H:Hp) (e:En) (kv:List Key×V):Prop:=kv.1=keyR N e.1∧∃t,kv.2=.ref t∧SqT K H t [.int (e.2.1:Int),optN e.2.2]
theorem EnVP.gt {N:Int}{K:Frag}{H H':Hp}{e:En}{kv:List Key×V} (g:GT H H'):EnVP N K H e kv→EnVP N K H' e kv:=fun⟨h1,t,h2,h3⟩=>⟨h1,t,h2,g.seqT h3⟩
def TrDP (N:Int) (K:Frag) (H:Hp) (d:Addr) (T:List En):Prop:=∃kvs,H d=some (.dT kvs)∧Paired (EnVP N K H) T kvs
theorem ϕo {N:Int}{K:Frag}{H:Hp}:∀{T:List En}{kvs:List (List Key×V)}{r:Int},Paired (EnVP N K H) T kvs→(valV kvs (keyR N r)=none↔r∉ϖF T)
 |[],_,r,h=>by cases h;simp[ϖF,ϡ_]
 |e::T,_,r,h=>by
  cases h with
  |@cons _ kv _ kvs h1 h2=>
   have ih:=ϕo (r:=r) h2
   by_cases c:e.1=r
   ·rw[ϖ8 (by rw[h1.1,c])]
    simp[ϖF,c]
   ·rw[ϖ7 (by rw[h1.1];exact fun z=>c (ϰg z)),ih]
    unfold ϖF
    rw[List.map_cons,List.mem_cons]
    exact⟨fun z y=>y.elim (fun w=>c w.symm) z,fun z y=>z (.inr y)⟩
theorem ϱO {N:Int}{K:Frag}{H:Hp}:∀{T:List En}{kvs:List (List Key×V)}{r:Int},Paired (EnVP N K H) T kvs→r∈ϖF T→∃(i:Nat) (e:En) (t:Addr),T[i]?=some e∧e.1=r∧valV kvs (keyR N r)=some (.ref t)∧SqT K H t [.int (e.2.1:Int),optN e.2.2]
 |[],_,r,h,hr=>by simp[ϖF] at hr
 |e::T,_,r,h,hr=>by
  cases h with
  |@cons _ kv _ kvs h1 h2=>
   by_cases c:e.1=r
   ·obtain⟨k1,t,k2,k3⟩:=h1
    exact⟨0,e,t,rfl,c,by rw[ϖ8 (by rw[k1,c]),k2],k3⟩
   ·have hr':r∈ϖF T:=by
     unfold ϖF at hr
     rw[List.map_cons,List.mem_cons] at hr
     exact hr.elim (fun z=>absurd z.symm c) id
    obtain⟨i,e',t,k1,k2,k3,k4⟩:=ϱO h2 hr'
    exact⟨i+1,e',t,k1,k2,by rw[ϖ7 (by rw[h1.1];exact fun z=>c (ϰg z))];exact k3,k4⟩
def ϰR (K:Frag):Sp:=fun vs H Q _=>∃N am M as_ S n f R,vs=[.ref am,.ref as_,.int n,.int f]∧MkLG N K H am M∧StLG N K H as_ S∧M.length≤999∧S.length≤19999∧(n=0∨n=3)∧(f=0∨f=3)∧R≤999 ∧
 (∀ m∈M,0≤m.1∧m.1 < R)∧(∀ t∈S,0≤ϖN f t∧ϖN f t < R)∧∀d T H',Same H H'→H d=none→TrDP N K H' d T→TrOk M S n f R T→Q (.ref d) H'
theorem ϟE (N n:Int) (S:List Stp) (r:Int):(List.range S.length).filter (fun q=>decide (ϰP N n S q=keyR N r))=ϖT n S r:=by
 unfold ϖT
 refine List.filter_congr fun q _=>decide_eq_decide.mpr ?_
 unfold ϰP keyP
 exact⟨fun h=>by rw[ϰg h],fun h=>by injection h with h;rw[h]⟩
theorem pl_getP {N n:Int}{S:List Stp}{H0 H:Hp}{pd l0:Addr}{kvs:List (List Key×V)} (bk:Bk isQ (ϰP N n S) H0 H pd (List.range S.length) kvs) (r:Int) (e0:H l0=some (.lst [])) :
  ∃la,(valV kvs (keyR N r)).getD (.ref l0)=.ref la∧H la=some (.lst ((ϖT n S r).map qV))∧(la=l0∨(H0 la=none∧∃k,valV kvs k=some (.ref la))):=by
 rw[← ϟE N]
 cases hv:valV kvs (keyR N r) with
 |none=>
  refine⟨l0,rfl,?_,.inl rfl⟩
  rw[bk.nokey _ hv];exact e0
 |some v=>
  obtain⟨l,ys,rfl,h1,h2,h3,h4,h5⟩:=bk.there _ _ hv
  refine⟨l,rfl,?_,.inr ⟨h1,_,hv⟩⟩
  rw[h3,ϰ8 h4]
theorem TrDP.put {N:Int}{K:Frag}{H:Hp}{d p:Addr}{T:List En}{kvs:List (List Key×V)}{e:En} (hkd:H d=some (.dT kvs)) (hp:Paired (EnVP N K H) T kvs) (hn:e.1∉ϖF T) (et:H p=some (.tup [.int (e.2.1:Int),optN e.2.2])) :
  TrDP N K (upd H d (.dT (putK kvs (keyR N e.1) (.ref p)))) d (T++[e]):=by
 have gt:GT H (upd H d (.dT (putK kvs (keyR N e.1) (.ref p)))):=ϕD hkd (fun _ z=>nomatch z) (fun _ _ z=>nomatch z) _
 refine⟨_,ϖc,?_⟩
 have e1:=ϵL (.ref p) ((ϕo hp).mpr hn)
 generalize upd H d (.dT (putK kvs (keyR N e.1) (.ref p)))=H' at gt⊢
 rw[e1]
 exact ϖo (ϖb (fun _ _=>EnVP.gt gt) hp) (.cons ⟨rfl,p,rfl,gt.seqT (SqT.of et)⟩ .nil)
theorem ϝf {N:Int}{K:Frag}{H:Hp}:∀{T:List En}{kvs:List (List Key×V)}{bs:List Addr},Paired (EnVP N K H) T kvs→Paired (fun (kv:List Key×V) b=>H b=some (.tup (kv.1.map kV))) kvs bs→Paired (RmV N H) (ϖF T) (bs.map V.ref)
 |[],_,_,h,g=>by cases h;cases g;exact .nil
 |e::T,_,_,h,g=>by
  cases h with
  |cons h1 h2=>
   cases g with
   |cons g1 g2=>
    rw[h1.1] at g1
    exact .cons ⟨_,rfl,g1⟩ (ϝf h2 g2)
def dRm (N r:Int):D:=.tup [.int (r / N),.int (r % N)]
theorem RmV.rep {N:Int}{K:Frag}{H:Hp}{r:Int}{v:V}:RmV N H r v→Rep K H (dRm N r) v:=fun⟨b,e,h⟩=>by subst e;exact ϲd (SqT.of h) (.cons (ϰ9 _) (.cons (ϰ9 _) .nil))
theorem ϵ1 {N:Int}{K:Frag}{H:Hp}:∀{fr:List Int}{ys:List V},Paired (RmV N H) fr ys→Reps K H (fr.map (dRm N)) ys
 |[],_,h=>by cases h;exact .nil
 |_::_,_,h=>by cases h with|cons h1 h2=>exact .cons h1.rep (ϵ1 h2)
theorem ϲa (N:Int):∀fr:List Int,ϰs (fr.map (dRm N))≤1
 |[]=>Nat.zero_le _
 |i::fr=>by
  have:=ϲa N fr
  rw[List.map_cons,ϰs]
  have e:deep (dRm N i)=1:=by simp[dRm,deep,ϰs]
  omega
theorem ϝR (N:Int) (fr:List Int):eqD (.lst (fr.map (dRm N))) (.lst [])=decide (fr=[]):=by
 cases fr with
 |nil=>rfl
 |cons i fr=>rfl
theorem bk_kbP {N n:Int}{S:List Stp}{A H H':Hp}{pd d:Addr}{ts:List Nat}{kvs:List (List Key×V)} (b:Bk isQ (ϰP N n S) A H pd ts kvs) (hd:A d≠none) (k:KB d H H'):Bk isQ (ϰP N n S) A H' pd ts kvs:=
 ⟨fun key v h=>let ⟨l,ys,e,h1,h2,h3,h4,h5⟩:=b.there key v h;⟨l,ys,e,h1,h2,k l _ (fun z=>hd (z▸h1)) h3,ϖb (fun _ _ h=>h) h4,h5⟩,b.nokey,b.inj,b.len⟩
theorem TrDP.gt {N:Int}{K:Frag}{H H':Hp}{d:Addr}{T:List En} (g:GT H H') (e:H' d=H d):TrDP N K H d T→TrDP N K H' d T:=fun⟨kvs,h,p⟩=>⟨kvs,by rw[e];exact h,ϖb (fun _ _=>EnVP.gt g) p⟩
theorem TrDP.mono {N:Int}{K:Frag}{H H':Hp}{d:Addr}{T:List En} (g:Same H H'):TrDP N K H d T→TrDP N K H' d T:=fun⟨kvs,h,p⟩=>⟨kvs,g _ _ h,ϖb (fun _ _=>EnVP.gt (GT.of g)) p⟩
theorem kbT {N:Int}{d b:Addr}{H H':Hp}{r:Int}{kvs:List (List Key×V)} (k:KB d H H') (hd:H d=some (.dT kvs)) (h:H b=some (tupR N r)):H' b=some (tupR N r):=k b _ (fun z=>by rw[z,hd] at h;cases h) h
theorem rmKb {N:Int}{d:Addr}{H H':Hp}{kvs:List (List Key×V)} (k:KB d H H') (hd:H d=some (.dT kvs)) {fr:List Int}{ys:List V} (h:Paired (RmV N H) fr ys):Paired (RmV N H') fr ys:=ϖb (fun _ _ ⟨b,e,h⟩=>⟨b,e,kbT k hd h⟩) h
def ScP (N:Int) (K:Frag) (H:Hp) (s:Scr) (v:V) (pb ps pe:Addr):Prop:=∃a xb xs xe,v=.ref a∧SqT K H a [.str s.signs,.int s.rooms,.ref pb,.ref ps,.ref pe]∧SqL K H pb xb∧SqL K H ps xs∧SqL K H pe xe ∧
 Paired (MkP N K H) s.begins xb∧Paired (StP N K H) s.steps xs∧Paired (MkP N K H) s.ends xe
theorem ScP.mono {N:Int}{K:Frag}{H H':Hp}{s:Scr}{v:V}{pb ps pe:Addr} (g:Same H H'):ScP N K H s v pb ps pe→ScP N K H' s v pb ps pe
 |⟨a,xb,xs,xe,e,h1,h2,h3,h4,h5,h6,h7⟩=>⟨a,xb,xs,xe,e,Same.seqT g h1,g.seq h2,g.seq h3,g.seq h4,ϖb (fun _ _=>MkP.mono g) h5,ϖb (fun _ _=>StP.mono g) h6,ϖb (fun _ _=>MkP.mono g) h7⟩
def ScG (N:Int) (K:Frag) (H:Hp) (s:Scr) (v:V) (pb ps pe:Addr):Prop:=∃a,∃z:V,∃xb xs xe,v=.ref a∧SqT K H a [.str s.signs,z,.ref pb,.ref ps,.ref pe]∧SqL K H pb xb∧SqL K H ps xs∧SqL K H pe xe ∧
 Paired (MkG N K H) s.begins xb∧Paired (StG N K H) s.steps xs∧Paired (MkG N K H) s.ends xe
theorem ScP.g {N:Int}{K:Frag}{H:Hp}{s:Scr}{v:V}{pb ps pe:Addr}:ScP N K H s v pb ps pe→ScG N K H s v pb ps pe
 |⟨a,xb,xs,xe,e,h1,h2,h3,h4,h5,h6,h7⟩=>⟨a,_,xb,xs,xe,e,h1,h2,h3,h4,ϖb (fun _ _=>MkP.g) h5,ϖb (fun _ _=>StP.g) h6,ϖb (fun _ _=>MkP.g) h7⟩
def ϝP (K:Frag):Sp:=fun vs H Q _=>∃N v s pb ps pe,vs=[v]∧ScG N K H s v pb ps pe∧OkR s∧∀d T H',Same H H'→H d=none→TrDP N K H' d T→TrOk s.begins s.steps 0 3 s.rooms T→Q (.ref d) H'
def ϝp (K:Frag):Sp:=fun vs H Q _=>∃N v s pb ps pe,vs=[v]∧ScG N K H s v pb ps pe∧OkR s∧∀d T H',Same H H'→H d=none→TrDP N K H' d T→TrOk s.ends s.steps 3 0 s.rooms T→Q (.ref d) H'
theorem le2_of {N a b:Int} (hN:0 < N) (h:le2 (a / N,a % N) (b / N,b % N)):a≤b:=by
 unfold le2 lt2 at h
 have h:=of_decide_eq_false h
 simp only at h
 have e1:=Int.emod_add_mul_ediv a N
 have e2:=Int.emod_add_mul_ediv b N
 apply Classical.byContradiction
 intro c
 have hd:b / N≤a / N:=Int.ediv_le_ediv hN (by omega)
 have hq:a / N=b / N:=by omega
 rw[hq] at e1
 omega
theorem prs_of {N:Int}{H:Hp}:∀{rs:List Int}{ys:List V},Paired (RmV N H) rs ys→Paired (PrA H) (rs.map fun r=>((r / N,r % N):PI2)) ys
 |[],_,h=>by cases h;exact .nil
 |_::_,_,h=>by
  cases h with
  |cons h1 h2=>
   obtain⟨b,e,hb⟩:=h1
   exact .cons ⟨b,e,hb⟩ (prs_of h2)
theorem ϟ6 {N:Int}{p:PI2}{r:Int} (h:((r / N,r % N):PI2)=p):p.2+N*p.1=r:=by subst h;exact Int.emod_add_mul_ediv r N
theorem ϛ4 {N:Int}{H:Hp}:∀{ps:List PI2}{ys:List V},Paired (PrA H) ps ys→(∀ p∈ps,∃r:Int,((r / N,r % N):PI2)=p)→Paired (RmV N H) (ps.map fun p=>p.2+N*p.1) ys
 |[],_,h,_=>by cases h;exact .nil
 |p::ps,_,h,hh=>by
  cases h with
  |cons h1 h2=>
   obtain⟨b,e,hb⟩:=h1
   obtain⟨r,hr⟩:=hh p (List.mem_cons_self ..)
   refine .cons ⟨b,e,?_⟩ (ϛ4 h2 fun q hq=>hh q (List.mem_cons_of_mem _ hq))
   show H b=some (tupR N (p.2+N*p.1))
   rw[ϟ6 hr,hb,← hr]
theorem ϛM {s:Scr} (ok:OkR s) {N:Int} (hN:0 < N) {T1 T2:List En} (h1:TrOk s.begins s.steps 0 3 s.rooms T1) (h2:TrOk s.ends s.steps 3 0 s.rooms T2) {H:Hp}{ps:List PI2}{ys:List V} (hp:ps.Perm (((ϖF T1).filter fun r=>decide (r∈ϖF T2)).map fun r=>((r / N,r % N):PI2))) (hs:ps.Pairwise le2) (hy:Paired (PrA H) ps ys):Paired (RmV N H) (useL s) ys:=by
 have hh:∀p∈ps,∃r:Int,((r / N,r % N):PI2)=p:=fun p hq=>by
  obtain⟨r,_,e⟩:=List.mem_map.mp (hp.mem_iff.mp hq)
  exact⟨r,e⟩
 have h:=ϛ4 hy hh
 have hp2:=hp.map fun p:PI2=>p.2+N*p.1
 rw[List.map_map] at hp2
 have e2:((ϖF T1).filter fun r=>decide (r∈ϖF T2)).map ((fun p:PI2=>p.2+N*p.1)∘fun r=>((r / N,r % N):PI2))=(ϖF T1).filter fun r=>decide (r∈ϖF T2):=by
  conv=>rhs;rw[← List.map_id ((ϖF T1).filter fun r=>decide (r∈ϖF T2))]
  exact List.map_congr_left fun r _=>Int.emod_add_mul_ediv r N
 rw[e2] at hp2
 rw[← useL_eq ok h1 h2 hp2 ?_]
 ·exact h
 ·refine List.pairwise_map.mpr (List.Pairwise.imp_of_mem ?_ hs)
  intro p q hp' hq' hle
  obtain⟨r,e⟩:=hh p hp'
  obtain⟨r',e'⟩:=hh q hq'
  rw[ϟ6 e,ϟ6 e']
  rw[← e,← e'] at hle
  exact le2_of hN hle
def ϱM (K:Frag):Sp:=fun vs H Q _=>∃N v s pb ps pe,vs=[v]∧0 < N∧ScP N K H s v pb ps pe∧OkR s∧s.rooms≤63∧∀l H' ys,Same H H'→H l=none→H' l=some (.lst ys)→Paired (RmV N H') (useL s) ys→Q (.ref l) H'
def ϕ0 (N:Int):List Int→Nat→List (List Key×V)
 |[],_=>[]
 |u::us,k=>(keyR N u,.int (k:Int))::ϕ0 N us (k+1)
theorem ϵb (N:Int):∀(us:List Int) (k:Nat),(ϕ0 N us k).length=us.length
 |[],_=>rfl
 |u::us,k=>by rw[ϕ0,List.length_cons,ϵb N us,List.length_cons]
theorem ϵs (N:Int):∀(us:List Int) (u:Int) (k:Nat),ϕ0 N (us++[u]) k=ϕ0 N us k++[(keyR N u,.int ((k+us.length:Nat):Int))]
 |[],u,k=>rfl
 |x::us,u,k=>by
  rw[List.cons_append,ϕ0,ϵs N us u (k+1),ϕ0,List.cons_append,List.length_cons]
  have:k+1+us.length=k+(us.length+1):=by omega
  rw[this]
theorem ϰM (N:Int):∀(us:List Int) (k:Nat) (r:Int),valV (ϕ0 N us k) (keyR N r)=(ϖI us r).map fun j=>V.int ((k+j:Nat):Int)
 |[],_,_=>rfl
 |u::us,k,r=>by
  rw[ϕ0]
  by_cases c:u=r
  ·subst c
   rw[ϖ8 rfl]
   unfold ϖI
   rw[List.idxOf?_cons]
   simp
  ·rw[ϖ7 (fun z=>c (ϰg z)),ϰM N us (k+1) r]
   unfold ϖI
   rw[List.idxOf?_cons]
   simp only[beq_iff_eq,c,if_false]
   cases us.idxOf? r with
   |none=>rfl
   |some j=>simp only[Option.map_some];congr 2;omega
theorem ϰe {N:Int}{us:List Int}{r:Int}{j:Nat} (h:ϖI us r=some j):valV (ϕ0 N us 0) (keyR N r)=some (V.int (j:Int)):=by rw[ϰM,h];simp
theorem ϱe {N:Int}{us:List Int}{r:Int} (h:ϖI us r=none):valV (ϕ0 N us 0) (keyR N r)=none:=by rw[ϰM,h];rfl
def ϵT (K:Frag):Sp:=fun vs H Q _=>∃N am M d us,vs=[.ref am,.ref d]∧MkLP N K H am M∧M.length≤999∧H d=some (.dT (ϕ0 N us 0))∧∀l H',Same H H'→H l=none→(∃ xs,H' l=some (.lst xs)∧Paired (MkV K H') (ϕr us M) xs)→Q (.ref l) H'
def ϵM (K:Frag):Sp:=fun vs H Q _=>∃N as_ S d us,vs=[.ref as_,.ref d]∧StLP N K H as_ S∧S.length≤19999∧H d=some (.dT (ϕ0 N us 0))∧∀l H',Same H H'→H l=none→(∃ xs,H' l=some (.lst xs)∧Paired (StV K H') (ϱJ us S) xs)→Q (.ref l) H'
def ϡE (K:Frag):Sp:=fun vs H Q _=>∃N v s pb ps pe,vs=[v]∧0 < N∧ScP N K H s v pb ps pe∧OkR s∧s.rooms≤63∧∀v' H' pb' ps' pe',Same H H'→ScN K H' (ϑN s) v' pb' ps' pe'→Apart H pb' ps' pe'→Q v' H'
theorem ϲL {s:Scr} (ok:OkR s):(useL s).length≤999:=by
 have:=List.length_filter_le (fun r=>@decide (Use s r) (Classical.propDecidable _)) ((List.range s.rooms.toNat).map fun k:Nat=>(k:Int))
 rw[List.length_map,List.length_range] at this
 have:=ok.lr
 unfold useL
 omega
theorem KB.refl_ (d:Addr) (H:Hp):KB d H H:=fun _ _ _ h=>h
def Nm (n:Int):Prop:=0≤n∧n≤1000000
def ϵJ (K:Frag) (c:Addr):Sp:=fun vs H Q E=>∃v s pb ps pe w u qb qs qe,vs=[v,w]∧ScV K H s v pb ps pe∧ScV K H u w qb qs qe∧Nm s.rooms∧(s.rooms*u.rooms≤200→Q .non H)∧(200 < s.rooms*u.rooms→E (.ref c) none H)
def jN (u:Scr):Int:=if u.rooms < 1 then 1 else u.rooms
theorem jN_pos (u:Scr):0 < jN u:=by unfold jN;split<;>omega
theorem ϵj {u:Scr} (h:0 < u.rooms):jN u=u.rooms:=by unfold jN;rw[if_neg (by omega)]
def enc (N i j:Int):Int:=j+N*i
theorem ϱH {N i j:Int} (h0:0≤j) (h1:j < N):enc N i j / N=i:=by
 unfold enc
 rw[Int.add_mul_ediv_left _ _ (by omega),Int.ediv_eq_zero_of_lt h0 h1];omega
theorem ϱ2 {N i j:Int} (h0:0≤j) (h1:j < N):enc N i j % N=j:=by
 unfold enc
 rw[Int.add_mul_emod_self_left];exact Int.emod_eq_of_lt h0 h1
theorem ϡi {N R i j:Int} (h0:0≤j) (h1:j < N) (i0:0≤i) (i1:i < R):0≤enc N i j∧enc N i j < R*N:=by
 unfold enc
 have e1:N*i≤N*(R-1):=Int.mul_le_mul_of_nonneg_left (by omega) (by omega)
 have e2:N*(R-1)=R*N-N:=by rw[Int.mul_sub,Int.mul_one,Int.mul_comm]
 have e3:0≤N*i:=Int.mul_nonneg (by omega) i0
 omega
theorem ϛe {N i j:Int} (h0:0≤j) (h1:j < N):tupR N (enc N i j)=.tup [V.int i,V.int j]:=by unfold tupR;rw[ϱH h0 h1,ϱ2 h0 h1]
def rdU (u:Scr) (j:Int) (w:Str):Option (Int×Str):=goM u (j,"") (cl w)
theorem ϲz {u:Scr}:∀ks:List Nat,ks.foldl (fun o k=>o.bind fun c=>ϰl u c k) (none:Option (Int×Str))=none
 |[]=>rfl
 |_::ks=>ϲz ks
theorem ϟl (u:Scr) (c:Int×Str) (k:Nat) (ks:List Nat):goM u c (k::ks)=(ϰl u c k).bind fun c'=>goM u c' ks:=by
 unfold goM
 rw[List.foldl_cons]
 show ks.foldl _ (ϰl u c k)=_
 cases ϰl u c k with
 |none=>exact ϲz ks
 |some c'=>rfl
theorem ϛv {u:Scr}{R:Int} (hs:∀t∈u.steps,0≤t.2.2.2∧t.2.2.2 < R) {c c':Int×Str}{k:Nat} (h:ϰl u c k=some c'):0≤c'.1∧c'.1 < R:=by
 unfold ϰl at h
 split at h
 ·cases h
 ·rename_i t l hf
  injection h with h
  subst h
  exact hs t (ϰu hf)
theorem ϱW {u:Scr}{R:Int} (hs:∀t∈u.steps,0≤t.2.2.2∧t.2.2.2 < R):∀(ks:List Nat) (c c':Int×Str),0≤c.1∧c.1 < R→goM u c ks=some c'→0≤c'.1∧c'.1 < R
 |[],c,c',h,e=>by cases e;exact h
 |k::ks,c,c',h,e=>by
  rw[ϟl] at e
  cases hn:ϰl u c k with
  |none=>rw[hn] at e;cases e
  |some d=>rw[hn] at e;exact ϱW hs ks d c' (ϛv hs hn) e
def jB (s u:Scr):List Mk:=match s.begins,u.begins with
 |b::_,o::_=>match rdU u o.1 b.2 with
  |none=>[]
  |some c=>[(enc (jN u) b.1 c.1,o.2++c.2)]
 |_,_=>[]
def jT (u:Scr) (p:Int) (t:Stp):Option Stp:=(rdU u (p % jN u) t.2.2.1).map fun c=>(p,t.2.1,c.2,enc (jN u) t.2.2.2 c.1)
structure JOk (s u:Scr):Prop where
 os:OkR s
 ou:OkR u
 ss:ϝF s
 su:ϝF u
 l1:s.steps.length≤99
 l2:u.steps.length≤99
 n1:0≤s.rooms
 n2:0≤u.rooms
def MkPW (N:Int) (K:Frag) (H:Hp) (l:Addr) (M:List Mk):Prop:=∃xs,H l=some (.lst xs)∧Paired (MkP N K H) M xs
def StPW (N:Int) (K:Frag) (H:Hp) (l:Addr) (S:List Stp):Prop:=∃xs,H l=some (.lst xs)∧Paired (StP N K H) S xs
def spJB (K:Frag):Sp:=fun vs H Q _=>∃v s pb ps pe w u qb qs qe,vs=[v,w]∧ScV K H s v pb ps pe∧ScV K H u w qb qs qe∧JOk s u∧∀l H',Same H H'→H l=none→MkPW (jN u) K H' l (jB s u)→Q (.ref l) H'
def spJS (K:Frag):Sp:=fun vs H Q _=>∃as_ L vS H0 u p rp,vs=[.ref as_,vS,.ref rp]∧StL K H as_ L∧L.length≤999∧(∀ t∈L,t.2.2.1.length≤100)∧StepD K H0 H u.steps vS∧ϝF u∧OkR u∧0 < u.rooms∧H rp=some (tupR (jN u) p)∧∀l H',Same H H'→H l=none→StPW (jN u) K H' l (L.filterMap (jT u p))→Q (.ref l) H'
theorem ϱE {α:Type} (f:α→D) (xs:List α):eqD (.lst (xs.map f)) (.lst [])=decide (xs=[]):=by
 cases xs with
 |nil=>rfl
 |cons _ _=>rfl
theorem StPW.mono {N:Int}{K:Frag}{H H':Hp}{l:Addr}{S:List Stp} (g:Same H H'):StPW N K H l S→StPW N K H' l S:=fun⟨xs,e,h⟩=>⟨xs,g _ _ e,ϖb (fun _ _=>StP.mono g) h⟩
theorem MkPW.mono {N:Int}{K:Frag}{H H':Hp}{l:Addr}{S:List Mk} (g:Same H H'):MkPW N K H l S→MkPW N K H' l S:=fun⟨xs,e,h⟩=>⟨xs,g _ _ e,ϖb (fun _ _=>MkP.mono g) h⟩
theorem ϟ8 {u:Scr}{p:Int}{t:Stp} (h:rdU u (p % jN u) t.2.2.1=none):jT u p t=none:=by unfold jT;rw[h];rfl
theorem ϝd {u:Scr}{p:Int}{t:Stp}{c:Int×Str} (h:rdU u (p % jN u) t.2.2.1=some c):jT u p t=some (p,t.2.1,c.2,enc (jN u) t.2.2.2 c.1):=by unfold jT;rw[h];rfl
def ϕT (E:List Mk) (i:Int):Option Str:=E.foldl (fun o m=>if m.1=i then some m.2 else o) none
def ϰZ (E:List Mk):List (Key×V):=E.map fun m=>(Sum.inl m.1,V.str m.2)
theorem ϝi (i:Int):∀(E:List Mk) (kvs:List (Key×V)) (acc:Option Str),valV kvs (Sum.inl i)=acc.map V.str→valV (ϕq kvs (ϰZ E)) (Sum.inl i)=(E.foldl (fun o m=>if m.1=i then some m.2 else o) acc).map V.str
 |[],_,_,h=>h
 |m::E,kvs,acc,h=>by
  refine ϝi i E (putK kvs (Sum.inl m.1) (V.str m.2)) _ ?_
  rw[ϰt]
  show _=Option.map V.str (if m.1=i then some m.2 else acc)
  by_cases c:m.1=i
  ·subst c;simp
  ·rw[if_neg (fun z=>c (by injection z with z;exact z.symm)),if_neg c];exact h
theorem ϟh (E:List Mk) (i:Int):valV (ϕq [] (ϰZ E)) (Sum.inl i)=(ϕT E i).map V.str:=ϝi i E [] none rfl
theorem ϱN {K:Frag}{H:Hp}:∀{E:List Mk}{xe:List V},Paired (MkV K H) E xe→Paired (fun (p:Key×V) v=>∃b,v=.ref b∧SqT K H b [kV p.1,p.2]) (ϰZ E) xe
 |[],_,h=>by cases h;exact .nil
 |m::E,_,h=>by
  cases h with
  |cons h1 h2=>exact .cons h1 (ϱN h2)
theorem ϡY {i:Int}{w:Str}:∀(E:List Mk) (acc:Option Str),E.foldl (fun o m=>if m.1=i then some m.2 else o) acc=some w→acc=some w∨(i,w)∈E
 |[],_,h=>.inl h
 |m::E,acc,h=>by
  rcases ϡY E _ h with h|h
  ·have h:(if m.1=i then some m.2 else acc)=some w:=h
   by_cases c:m.1=i
   ·rw[if_pos c] at h
    injection h with h
    refine .inr ?_
    rw[← c,← h];exact List.mem_cons_self ..
   ·rw[if_neg c] at h;exact .inl h
  ·exact .inr (List.mem_cons_of_mem _ h)
theorem ϰw {E:List Mk}{i:Int}{w:Str} (h:ϕT E i=some w):(i,w)∈E:=(ϡY E none h).resolve_left (fun z=>nomatch z)
def jE1 (s u:Scr) (p:Int):Option Mk:=(ϕT s.ends (p / jN u)).bind fun w=>(rdU u (p % jN u) w).bind fun c=>(ϕT u.ends c.1).map fun y=>(p,c.2++y)
def spJE (K:Frag):Sp:=fun vs H Q _=>∃v s pb ps pe w u qb qs qe lp ys P,vs=[v,w,.ref lp]∧ScN K H s v pb ps pe∧ScN K H u w qb qs qe∧JOk s u∧H lp=some (.lst ys)∧Paired (RmV (jN u) H) P ys∧P.length≤999∧∀l H',Same H H'→H l=none→MkPW (jN u) K H' l (P.filterMap (jE1 s u))→Q (.ref l) H'
def ϲv (s:Scr) (i:Int):List Stp:=(ϖT 0 s.steps i).filterMap fun q=>s.steps[q]?
def jS (s u:Scr) (p:Int):List Stp:=(ϲv s (p / jN u)).filterMap (jT u p)
def ϕS (s u:Scr) (p:Int):List Int:=(jS s u p).map fun t=>t.2.2.2
def rd1 (s u:Scr) (st:List Int×List Int) (p:Int):List Int×List Int:=if p∈st.1 then st else (st.1++[p],st.2++ϕS s u p)
def itJ (s u:Scr):Nat→List Int×List Int
 |0=>([],(jB s u).map (·.1))
 |k+1=>(itJ s u k).2.foldl (rd1 s u) ((itJ s u k).1,[])
theorem ϵF (s u:Scr) (k:Nat) (h:(itJ s u k).2=[]):∀n,itJ s u (k+n)=itJ s u k
 |0=>rfl
 |n+1=>by
  show(itJ s u (k+n)).2.foldl (rd1 s u) ((itJ s u (k+n)).1,[])=_
  rw[ϵF s u k h n,h]
  show((itJ s u k).1,[])=itJ s u k
  rw[← h]
open Classical in
noncomputable def ϑC (s u:Scr):List Int:=if h:∃k,(itJ s u k).2=[] then (itJ s u h.choose).1 else []
theorem ϵC {s u:Scr}{k:Nat} (h:(itJ s u k).2=[]):ϑC s u=(itJ s u k).1:=by
 have hx:∃k,(itJ s u k).2=[]:=⟨k,h⟩
 unfold ϑC
 rw[dif_pos hx]
 have h1:=ϵF s u _ hx.choose_spec k
 have h2:=ϵF s u k h hx.choose
 rw[Nat.add_comm] at h1
 rw[← h1,h2]
theorem mem_stOut {s:Scr}{i:Int}{t:Stp}:t∈ϲv s i↔t∈s.steps∧t.1=i:=by
 unfold ϲv
 rw[List.mem_filterMap]
 constructor
 ·rintro⟨q,hq,e⟩
  obtain⟨t',e',hi⟩:=mem_placesOf.mp hq
  rw[e'] at e
  injection e with e
  subst e
  exact⟨List.mem_of_getElem? e',by unfold ϖN at hi;rw[if_pos rfl] at hi;exact hi⟩
 ·rintro⟨ht,hi⟩
  obtain⟨q,hq⟩:=List.getElem?_of_mem ht
  exact⟨q,mem_placesOf.mpr ⟨t,hq,by unfold ϖN;rw[if_pos rfl];exact hi⟩,hq⟩
theorem ϲw (s:Scr) (i:Int):(ϲv s i).length≤s.steps.length:=by
 have h1:=List.length_filterMap_le (fun q=>s.steps[q]?) (ϖT 0 s.steps i)
 have h2:=List.length_filter_le (fun q=>decide (keyP 0 s.steps q=Sum.inl i)) (List.range s.steps.length)
 rw[List.length_range] at h2
 unfold ϲv
 unfold ϖT at *
 omega
theorem ϟs (s u:Scr) (p:Int):(jS s u p).length≤s.steps.length:=Nat.le_trans (List.length_filterMap_le _ _) (ϲw s _)
theorem jS_bnd {s u:Scr} (jk:JOk s u) (ur:0 < u.rooms) {p:Int}{t:Stp} (ht:t∈jS s u p):t.1=p∧0≤t.2.2.2∧t.2.2.2 < s.rooms*u.rooms:=by
 unfold jS at ht
 obtain⟨t0,h0,e⟩:=List.mem_filterMap.mp ht
 have h0:=(mem_stOut.mp h0).1
 unfold jT at e
 cases hr:rdU u (p % jN u) t0.2.2.1 with
 |none=>rw[hr] at e;cases e
 |some c=>
  rw[hr] at e
  injection e with e
  subst e
  have hb:=ϱW (fun t ht=>(jk.ou.ms t ht).2.2) _ _ _ (by rw[ϵj ur];exact⟨Int.emod_nonneg p (by omega),Int.emod_lt_of_pos p ur⟩) hr
  have h2:=(jk.os.ms t0 h0).2.2
  refine⟨rfl,?_⟩
  show 0≤enc (jN u) t0.2.2.2 c.1∧enc (jN u) t0.2.2.2 c.1 < _
  rw[ϵj ur]
  exact ϡi hb.1 hb.2 h2.1 h2.2
theorem ϰH {s u:Scr} (jk:JOk s u) {p:Int} (h0:0≤p) (h1:p < s.rooms*u.rooms):0 < u.rooms:=by
 apply Classical.byContradiction
 intro c
 have:=jk.n2
 have e:u.rooms=0:=by omega
 rw[e,Int.mul_zero] at h1
 omega
structure JI (s u:Scr) (P beh:List Int):Prop where
 nd:P.Nodup
 pr:∀p∈P,0≤p∧p < s.rooms*u.rooms
 br:∀p∈beh,0≤p∧p < s.rooms*u.rooms
 bl:beh.length≤99*P.length
theorem JI.add {s u:Scr} (jk:JOk s u) {P beh:List Int} (h:JI s u P beh) {p:Int} (h0:0≤p∧p < s.rooms*u.rooms) (hn:p∉P):JI s u (P++[p]) (beh++ϕS s u p):=by
 have ur:=ϰH jk h0.1 h0.2
 refine⟨ϰh h.nd hn,fun q hq=>?_,fun q hq=>?_,?_⟩
 ·rcases List.mem_append.mp hq with hq|hq
  ·exact h.pr q hq
  ·rw[List.mem_singleton.mp hq];exact h0
 ·rcases List.mem_append.mp hq with hq|hq
  ·exact h.br q hq
  ·unfold ϕS at hq
   obtain⟨t,ht,rfl⟩:=List.mem_map.mp hq
   exact(jS_bnd jk ur ht).2
 ·have h1:=h.bl
  have h2:=ϟs s u p
  have h3:=jk.l1
  rw[List.length_append,List.length_append,List.length_singleton]
  unfold ϕS
  rw[List.length_map]
  omega
theorem JI.len {s u:Scr} (h200:s.rooms*u.rooms≤200) {P beh:List Int} (h:JI s u P beh):P.length≤(s.rooms*u.rooms).toNat:=ϱP _ P h.nd fun x hx=>by have:=h.pr x hx;omega
theorem ϵn (s u:Scr):∀(fr:List Int) (st:List Int×List Int),(fr.foldl (rd1 s u) st=st)∨st.1.length < (fr.foldl (rd1 s u) st).1.length
 |[],_=>.inl rfl
 |p::fr,st=>by
  rw[List.foldl_cons]
  by_cases c:p∈st.1
  ·have e:rd1 s u st p=st:=by unfold rd1;rw[if_pos c]
   rw[e];exact ϵn s u fr st
  ·have e:rd1 s u st p=(st.1++[p],st.2++ϕS s u p):=by unfold rd1;rw[if_neg c]
   rw[e]
   have hl:(st.1++[p]).length=st.1.length+1:=by rw[List.length_append,List.length_singleton]
   rcases ϵn s u fr (st.1++[p],st.2++ϕS s u p) with h|h
   ·rw[h];exact .inr (by show _ < (st.1++[p]).length;omega)
   ·have h:(st.1++[p]).length < _:=h
    exact .inr (by omega)
def JV (K:Frag) (H:Hp) (s u:Scr) (X:Addr) (p:Int) (kv:List Key×V):Prop:=kv.1=keyR (jN u) p∧∃l,kv.2=.ref l∧l≠X∧StPW (jN u) K H l (jS s u p)
theorem ϱT {K:Frag}{H:Hp}{s u:Scr}{X:Addr}:∀{T:List Int}{kvs:List (List Key×V)}{r:Int},Paired (JV K H s u X) T kvs→(valV kvs (keyR (jN u) r)=none↔r∉T)
 |[],_,r,h=>by cases h;simp[ϡ_]
 |e::T,_,r,h=>by
  cases h with
  |@cons _ kv _ kvs h1 h2=>
   have ih:=ϱT (r:=r) h2
   by_cases c:e=r
   ·rw[ϖ8 (by rw[h1.1,c])]
    simp[c]
   ·rw[ϖ7 (by rw[h1.1];exact fun z=>c (ϰg z)),ih,List.mem_cons]
    exact⟨fun z y=>y.elim (fun w=>c w.symm) z,fun z y=>z (.inr y)⟩
theorem ϲ2 {K:Frag}{H:Hp}{s u:Scr}{X:Addr}:∀{T:List Int}{kvs:List (List Key×V)}{r:Int},Paired (JV K H s u X) T kvs→r∈T→∃l,valV kvs (keyR (jN u) r)=some (.ref l)∧l≠X∧StPW (jN u) K H l (jS s u r)
 |[],_,r,h,hr=>by cases hr
 |e::T,_,r,h,hr=>by
  cases h with
  |@cons _ kv _ kvs h1 h2=>
   by_cases c:e=r
   ·obtain⟨k1,l,k2,k3,k4⟩:=h1
    exact⟨l,by rw[ϖ8 (by rw[k1,c]),k2],k3,c▸k4⟩
   ·obtain⟨l,k3,k4⟩:=ϲ2 h2 ((List.mem_cons.mp hr).resolve_left (fun z=>c z.symm))
    exact⟨l,by rw[ϖ7 (by rw[h1.1];exact fun z=>c (ϰg z))];exact k3,k4⟩
def TS (H H':Hp):Prop:=∀b xs,H b=some (.tup xs)→H' b=some (.tup xs)
theorem ϲx {H:Hp}{p:Addr}{o:HO} (h:H p=some o) (n1:∀xs,o≠.tup xs) (o':HO):TS H (upd H p o'):=fun b xs q=>by
 rw[ϖp (fun z=>by rw[z,h] at q;exact n1 xs (Option.some.inj q))];exact q
theorem StP.ts {N:Int}{K:Frag}{H H':Hp}{t:Stp}{v:V} (g:GT H H') (s:TS H H'):StP N K H t v→StP N K H' t v:=fun⟨b,c,e,h0,h,h1,h2⟩=>⟨b,c,e,h0,g.seqT h,s _ _ h1,s _ _ h2⟩
theorem RmV.ts {N:Int}{H H':Hp}{r:Int}{v:V} (s:TS H H'):RmV N H r v→RmV N H' r v:=fun⟨b,e,h⟩=>⟨b,e,s _ _ h⟩
theorem JV.same {K:Frag}{H H':Hp}{s u:Scr}{X:Addr}{p:Int}{kv:List Key×V} (g:Same H H'):JV K H s u X p kv→JV K H' s u X p kv:=fun⟨h1,l,h2,h3,h4⟩=>⟨h1,l,h2,h3,h4.mono g⟩
theorem JV.upd {K:Frag}{H:Hp}{s u:Scr}{X a:Addr}{o o':HO}{p:Int}{kv:List Key×V} (ha:H a=some o) (n1:∀xs,o≠.tup xs) (n2:∀u xs,o≠.frz u (.tup xs)) (hx:a=X∨∀xs,o≠.lst xs):JV K H s u X p kv→JV K (upd H a o') s u X p kv:=fun⟨h1,l,h2,h3,xs,h4,h5⟩=>
 ⟨h1,l,h2,h3,xs,by
  rw[ϖp (fun z=>?_)]
  ·exact h4
  ·rcases hx with rfl|hx
   ·exact h3 z
   ·rw[z,ha] at h4;exact hx xs (Option.some.inj h4),ϖb (fun _ _=>StP.ts (ϕD ha n1 n2 o') (ϲx ha n1 o')) h5⟩
theorem JV.x {K:Frag}{H:Hp}{s u:Scr}{X X':Addr}{p:Int}{kv:List Key×V} (h:∀xs,H X'≠some (.lst xs)):JV K H s u X p kv→JV K H s u X' p kv:=fun⟨h1,l,h2,h3,xs,h4,h5⟩=>⟨h1,l,h2,fun z=>h xs (z▸h4),xs,h4,h5⟩
def JD (K:Frag) (H:Hp) (s u:Scr) (d:Addr) (P:List Int):Prop:=∃kvs,H d=some (.dT kvs)∧Paired (JV K H s u d) P kvs
def spJP (K:Frag):Sp:=fun vs H Q _=>∃v s pb ps pe w u qb qs qe lb,vs=[v,w,.ref lb]∧ScV K H s v pb ps pe∧ScV K H u w qb qs qe∧JOk s u∧s.rooms*u.rooms≤200∧MkPW (jN u) K H lb (jB s u)∧(∀ m∈jB s u,0≤m.1∧m.1 < s.rooms*u.rooms)∧∀d H' P k,Same H H'→H d=none→(itJ s u k).2=[]→P=(itJ s u k).1→JI s u P []→JD K H' s u d P→Q (.ref d) H'
theorem qs_pair {H:Hp}{xs:List V}{S:List Stp}{K:Frag} (h6:Paired (StV K H) S xs) {q:Nat}{t:Stp} (ht:S[q]?=some t):∃b,xs[q]?=some (.ref b)∧SqT K H b [.int t.1,.str t.2.1,.str t.2.2.1,.int t.2.2.2]:=by
 obtain⟨v,hv,b,rfl,hb⟩:=ϑ4 h6 ht
 exact⟨b,hv,hb⟩
theorem ϟx {α β:Type} (f:β→α→β) (b:β) {xs:List α}{i:Nat}{x:α} (h:xs[i]?=some x):(xs.take (i+1)).foldl f b=f ((xs.take i).foldl f b) x:=by rw[ϖA h,List.foldl_append];rfl
noncomputable def ϑ2 (s u:Scr):Scr:=⟨s.signs,s.rooms*u.rooms,jB s u,(ϑC s u).flatMap (jS s u),(ϑC s u).filterMap (jE1 s u)⟩
theorem jB_len (s u:Scr):(jB s u).length≤1:=by
 unfold jB
 split
 ·split<;>simp
 ·simp
theorem ϛY {s u:Scr} (jk:JOk s u):∀m∈jB s u,0≤m.1∧m.1 < s.rooms*u.rooms:=by
 intro m hm
 unfold jB at hm
 split at hm
 ·rename_i b _ o _ hb ho
  have hbm:b∈s.begins:=by rw[hb];exact List.mem_cons_self ..
  have hom:o∈u.begins:=by rw[ho];exact List.mem_cons_self ..
  have ur:0 < u.rooms:=by have:=jk.ou.mb o hom;omega
  split at hm
  ·cases hm
  ·rename_i c hc
   rw[List.mem_singleton.mp hm]
   have h1:=ϱW (fun t ht=>(jk.ou.ms t ht).2.2) (cl b.2) (o.1,"") c (jk.ou.mb o hom) hc
   have h2:=jk.os.mb b hbm
   show 0≤enc (jN u) b.1 c.1∧enc (jN u) b.1 c.1 < _
   rw[ϵj ur]
   exact ϡi h1.1 h1.2 h2.1 h2.2
 ·cases hm
theorem ϱA (s u:Scr) (h:s.steps.length≤99):∀P:List Int,(P.flatMap (jS s u)).length≤99*P.length
 |[]=>Nat.zero_le _
 |p::P=>by
  have h1:=ϱA s u h P
  have h2:=ϟs s u p
  rw[List.flatMap_cons,List.length_append,List.length_cons]
  omega
theorem ϡh {s u:Scr}{p:Int}{m:Mk} (h:jE1 s u p=some m):m.1=p:=by
 unfold jE1 at h
 cases h1:ϕT s.ends (p / jN u) with
 |none=>rw[h1] at h;cases h
 |some w=>
  rw[h1] at h
  have h:(rdU u (p % jN u) w).bind (fun c=>(ϕT u.ends c.1).map fun y=>(p,c.2++y))=some m:=h
  cases h2:rdU u (p % jN u) w with
  |none=>rw[h2] at h;cases h
  |some c=>
   rw[h2] at h
   have h:(ϕT u.ends c.1).map (fun y=>(p,c.2++y))=some m:=h
   cases h3:ϕT u.ends c.1 with
   |none=>rw[h3] at h;cases h
   |some y=>rw[h3] at h;injection h with h;rw[← h]
theorem ϟi {s u:Scr} (jk:JOk s u) (h200:s.rooms*u.rooms≤200) (ji:JI s u (ϑC s u) []):OkR (ϑ2 s u):=by
 have hl:=ji.len h200
 refine⟨Nat.le_trans (jB_len s u) (by decide),?_,?_,?_,ϛY jk,fun t ht=>?_,fun m hm=>?_⟩
 ·show((ϑC s u).flatMap (jS s u)).length≤19999
  have:=ϱA s u jk.l1 (ϑC s u)
  omega
 ·show((ϑC s u).filterMap (jE1 s u)).length≤999
  have:=List.length_filterMap_le (jE1 s u) (ϑC s u)
  omega
 ·show s.rooms*u.rooms≤999
  omega
 ·obtain⟨p,hp,ht⟩:=List.mem_flatMap.mp (show t∈(ϑC s u).flatMap (jS s u) from ht)
  have hpr:=ji.pr p hp
  have hb:=jS_bnd jk (ϰH jk hpr.1 hpr.2) ht
  rw[hb.1]
  exact⟨hpr.1,hpr.2,hb.2⟩
 ·obtain⟨p,hp,e⟩:=List.mem_filterMap.mp (show m∈(ϑC s u).filterMap (jE1 s u) from hm)
  rw[ϡh e]
  exact ji.pr p hp
theorem ϟr {K:Frag}{H H':Hp}{s u:Scr}{X:Addr}:∀{T:List Int}{kvs:List (List Key×V)}{bs:List Addr},Paired (JV K H s u X) T kvs→Paired (fun (kv:List Key×V) b=>H' b=some (.tup (kv.1.map kV))) kvs bs→Paired (RmV (jN u) H') T (bs.map V.ref)
 |[],_,_,h,g=>by cases h;cases g;exact .nil
 |e::T,_,_,h,g=>by
  cases h with
  |cons h1 h2=>
   cases g with
   |cons g1 g2=>
    rw[h1.1] at g1
    exact .cons ⟨_,rfl,g1⟩ (ϟr h2 g2)
def ϝj (K:Frag) (c c2:Addr):Sp:=fun vs H Q E=>∃v s pb ps pe w u qb qs qe,vs=[v,w]∧ScN K H s v pb ps pe∧ScN K H u w qb qs qe∧JOk s u∧s.rooms*u.rooms≤63∧Nm s.rooms∧(ϖO s=false→∀H',Same H H'→E (.ref c) none H')∧(ϖO s=true→ϖO u=false→∀H',Same H H'→E (.ref c) none H') ∧
 (ϖO s=true→ϖO u=true→200 < s.rooms*u.rooms→∀H',Same H H'→E (.ref c2) none H') ∧
 (ϖO s=true→ϖO u=true→s.rooms*u.rooms≤200→∀v' H' pb' ps' pe' k,Same H H'→(itJ s u k).2=[]→JI s u (ϑC s u) []→ScN K H' (ϑN (ϑ2 s u)) v' pb' ps' pe'→Apart H pb' ps' pe'→Q v' H')
theorem ScN.same {K:Frag}{H H':Hp}{s:Scr}{v:V}{pb ps pe:Addr} (g:Same H H'):ScN K H s v pb ps pe→ScN K H' s v pb ps pe
 |⟨a,xb,xs,xe,e,h1,h2,h3,h4,h5,h6,h7⟩=>⟨a,xb,xs,xe,e,Same.seqT g h1,g _ _ h2,g _ _ h3,g _ _ h4,ϖb (fun _ _=>MkV.mono (Same.grow g)) h5,ϖb (fun _ _=>StV.mono (Same.grow g)) h6,ϖb (fun _ _=>MkV.mono (Same.grow g)) h7⟩
theorem JV.lift {K:Frag}{H H':Hp}{s u:Scr}{X X':Addr}{p:Int}{kv:List Key×V} (gt:GT H H') (ts:TS H H') (hl:∀l xs,H l=some (.lst xs)→H' l=some (.lst xs)) (hx:∀l xs,H l=some (.lst xs)→l≠X'):JV K H s u X p kv→JV K H' s u X' p kv:=fun⟨h1,l,h2,_,xs,h4,h5⟩=>
 ⟨h1,l,h2,hx l xs h4,xs,hl l xs h4,ϖb (fun _ _=>StP.ts gt ts) h5⟩
def ϡb (K:Frag):Sp:=fun vs H Q _=>∃(a:Addr) (ns:List Int) (g:Str) (n:Int),vs=[.ref a,.str g,.int n]∧SqL K H a (ns.map V.int)∧1≤g.length∧g.length≤26∧0≤n∧n≤50∧∀x:Str,x.length≤50→Q (.str x) H
theorem ϰo {α β:Type}{F:α→β→Prop}{xs:List α}{ys:List β}{i:Nat}{x:α} (h:Paired F xs ys) (hx:xs[i]?=some x):∃y,ys[i]?=some y∧F x y:=by
 have hi:i < ys.length:=by rw[← h.length];exact(List.getElem?_eq_some_iff.mp hx).1
 obtain⟨x',h1,h2⟩:=ϖr h (List.getElem?_eq_getElem hi)
 rw[hx] at h1
 cases h1
 exact⟨_,List.getElem?_eq_getElem hi,h2⟩
def ϑB (S:List Stp):List Nat→Int→Str→Option (Int×Str)
 |[],r,w=>some (r,w)
 |c::x,r,w=>match S.find? (fun t=>decide (t.1=r) && decide (t.2.1=⟨#[c]⟩)) with
  |none=>none
  |some t=>ϑB S x t.2.2.2 (w++t.2.2.1)
def endW (E:List Mk) (p:Int×Str):Option Str:=(E.find? fun m=>decide (m.1=p.1)).map fun m=>p.2++m.2
def runS (s:Scr) (x:Str):Option Str:=match s.begins with
 |[]=>none
 |b::_=>(ϑB s.steps (cl x) b.1 b.2).bind (endW s.ends)
theorem ϰz {α:Type}{p:α→Bool}{u:α}:∀{S:List α},(∀ v∈S,p v=true→v=u)→u∈S→p u=true→S.find? p=some u
 |[],_,h,_=>nomatch h
 |v::S,hu,h,hp=>by
  rw[List.find?_cons]
  by_cases c:p v=true
  ·rw[c,hu v (List.mem_cons_self ..) c]
  ·rw[Bool.not_eq_true] at c
   rw[c]
   rcases List.mem_cons.mp h with e|h
   ·rw[e,c] at hp;cases hp
   ·exact ϰz (fun w hw=>hu w (List.mem_cons_of_mem _ hw)) h hp
theorem ϡk {α β:Type}{f:α→β}:∀{S:List α},(S.map f).Nodup→∀{u v:α},u∈S→v∈S→f u=f v→u=v
 |[],_,_,_,h,_,_=>nomatch h
 |a::S,nd,u,v,hu,hv,e=>by
  rw[List.map_cons,List.nodup_cons] at nd
  rcases List.mem_cons.mp hu with h1|h1
  ·rcases List.mem_cons.mp hv with h2|h2
   ·rw[h1,h2]
   ·exact absurd (List.mem_map.mpr ⟨v,h2,by rw[← e,h1]⟩) nd.1
  ·rcases List.mem_cons.mp hv with h2|h2
   ·exact absurd (List.mem_map.mpr ⟨u,h1,by rw[e,h2]⟩) nd.1
   ·exact ϡk nd.2 h1 h2 e
def stP (r:Int) (c:Nat) (t:Stp):Bool:=decide (t.1=r) && decide (t.2.1=⟨#[c]⟩)
theorem stP_iff {r:Int}{c:Nat}{t:Stp}:stP r c t=true↔t.1=r∧t.2.1=⟨#[c]⟩:=by
 unfold stP
 rw[Bool.and_eq_true,decide_eq_true_eq,decide_eq_true_eq]
theorem ϕl {S:List Stp}{c:Nat}{x:List Nat}{r:Int}{w:Str}:ϑB S (c::x) r w=match S.find? (stP r c) with
  |none=>none
  |some t=>ϑB S x t.2.2.2 (w++t.2.2.1):=rfl
theorem ϱQ {s:Scr} (h:ϖO s=true) {r:Int}{c:Nat}{t:Stp} (ht:t∈s.steps) (hp:stP r c t=true):s.steps.find? (stP r c)=some t:=by
 have nd:=(plain_iff.mp h).2.1
 obtain⟨e1,e2⟩:=stP_iff.mp hp
 refine ϰz (fun v hv hv2=>?_) ht hp
 obtain⟨f1,f2⟩:=stP_iff.mp hv2
 exact ϡk nd hv ht (by show(v.1,v.2.1)=(t.1,t.2.1);rw[f1,f2,e1,e2])
theorem ϛn {s:Scr} (h:ϖO s=true) {r:Int}{m:Mk} (hm:m∈s.ends) (e:m.1=r):(s.ends.find? fun m=>decide (m.1=r))=some m:=
 ϰz (fun v hv hv2=>ϡk (plain_iff.mp h).2.2 hv hm (by rw[e];exact of_decide_eq_true hv2)) hm (decide_eq_true e)
theorem ϝY {s:Scr}:∀(x:List Nat) (r:Int) (w y:Str),(ϑB s.steps x r w).bind (endW s.ends)=some y→Rch s.ends s.steps 3 0 r
 |[],r,w,y,h=>by
  have h:endW s.ends (r,w)=some y:=h
  unfold endW at h
  obtain⟨m,hm,_⟩:=Option.map_eq_some_iff.mp h
  have h2:=List.find?_some hm
  have e:m.1=r:=of_decide_eq_true (by exact h2)
  rw[← e]
  exact Rch.base (List.mem_of_find?_eq_some hm)
 |c::x,r,w,y,h=>by
  rw[ϕl] at h
  cases hf:s.steps.find? (stP r c) with
  |none=>rw[hf] at h;cases h
  |some t=>
   rw[hf] at h
   have:=ϝY x _ _ y h
   have hr:=(stP_iff.mp (List.find?_some hf)).1
   rw[← hr]
   exact Rch.step (n:=3) (f:=0) (List.mem_of_find?_eq_some hf) this
theorem ϝ1 {s:Scr} (ok:OkR s) (hp:ϖO s=true):∀(x:List Nat) (r:Int) (j:Nat) (w:Str),Rch s.begins s.steps 0 3 r→ϖI (useL s) r=some j →
  (ϑB (ϑN s).steps x (j:Int) w).bind (endW (ϑN s).ends)=(ϑB s.steps x r w).bind (endW s.ends)
 |[],r,j,w,hr,hj=>by
  show endW (ϑN s).ends ((j:Int),w)=endW s.ends (r,w)
  unfold endW
  cases hf:s.ends.find? fun m=>decide (m.1=r) with
  |some m=>
   have h2:=List.find?_some hf
   have e:m.1=r:=of_decide_eq_true (by exact h2)
   have hm:((j:Int),m.2)∈(ϑN s).ends:=mem_keptM.mpr ⟨m,List.mem_of_find?_eq_some hf,j,by rw[e];exact hj,rfl⟩
   rw[ϛn (ϰ_ hp) hm rfl];rfl
  |none=>
   have hn:((ϑN s).ends.find? fun m=>decide (m.1=((j:Int),w).1))=none:=by
    rw[List.find?_eq_none]
    rintro m hm e
    have e:m.1=(j:Int):=of_decide_eq_true (by exact e)
    obtain⟨m0,h0,k,hk,rfl⟩:=mem_keptM.mp hm
    have ek:k=j:=by have:((k:Nat):Int)=(j:Int):=e;omega
    subst ek
    have:=List.find?_eq_none.mp hf m0 h0
    exact this (decide_eq_true (ϰE hk hj))
   rw[hn]
 |c::x,r,j,w,hr,hj=>by
  rw[ϕl,ϕl]
  have back:∀t∈(ϑN s).steps,stP (j:Int) c t=true→∃u∈s.steps,stP r c u=true∧∃k:Nat,ϖI (useL s) u.2.2.2=some k∧t=((j:Int),u.2.1,u.2.2.1,(k:Int)):=fun t ht hp2=>by
   obtain⟨u,hu,i,k,hi,hk,rfl⟩:=mem_keptS.mp ht
   obtain⟨e1,e2⟩:=stP_iff.mp hp2
   have ei:i=j:=by have:((i:Nat):Int)=(j:Int):=e1;omega
   subst ei
   exact⟨u,hu,stP_iff.mpr ⟨ϰE hi hj,e2⟩,k,hk,rfl⟩
  cases hf:s.steps.find? (stP r c) with
  |none=>
   have hn:(ϑN s).steps.find? (stP (j:Int) c)=none:=by
    rw[List.find?_eq_none]
    intro t ht e
    obtain⟨u,hu,hu2,_⟩:=back t ht e
    exact List.find?_eq_none.mp hf u hu hu2
   rw[hn];rfl
  |some u=>
   have hu:=List.mem_of_find?_eq_some hf
   have hu2:=List.find?_some hf
   have hur:u.1=r:=(stP_iff.mp hu2).1
   have hg:Rch s.begins s.steps 0 3 u.2.2.2:=Rch.step (n:=0) (f:=3) hu (by show Rch s.begins s.steps 0 3 u.1;rw[hur];exact hr)
   cases hk:ϖI (useL s) u.2.2.2 with
   |some k=>
    have ht:((j:Int),u.2.1,u.2.2.1,(k:Int))∈(ϑN s).steps:=mem_keptS.mpr ⟨u,hu,j,k,by rw[hur];exact hj,hk,rfl⟩
    rw[ϱQ (ϰ_ hp) ht (stP_iff.mpr ⟨rfl,(stP_iff.mp hu2).2⟩)]
    exact ϝ1 ok hp x u.2.2.2 k (w++u.2.2.1) hg hk
   |none=>
    have hn:(ϑN s).steps.find? (stP (j:Int) c)=none:=by
     rw[List.find?_eq_none]
     intro t ht e
     obtain⟨u',hu',hu2',k,hk',_⟩:=back t ht e
     have:=ϱQ hp hu' hu2'
     rw[hf] at this
     injection this with this
     rw[← this,hk] at hk';cases hk'
    rw[hn]
    show none=(ϑB s.steps x u.2.2.2 (w++u.2.2.1)).bind (endW s.ends)
    cases hz:(ϑB s.steps x u.2.2.2 (w++u.2.2.1)).bind (endW s.ends) with
    |none=>rfl
    |some y=>
     obtain⟨k,hk'⟩:=ϲN ok ⟨hg,ϝY x _ _ y hz⟩
     rw[hk] at hk';cases hk'
theorem ϛB {s:Scr} (ok:OkR s) (hp:ϖO s=true) (x:Str):runS (ϑN s) x=runS s x:=by
 have hl:=(plain_iff.mp hp).1
 unfold runS
 cases hb:s.begins with
 |nil=>
  have:(ϑN s).begins=[]:=by show ϕr (useL s) s.begins=[];rw[hb];rfl
  rw[this]
 |cons b B=>
  rw[hb,List.length_cons] at hl
  have hB:B=[]:=List.eq_nil_of_length_eq_zero (by omega)
  subst hB
  have hr:Rch s.begins s.steps 0 3 b.1:=Rch.base (by rw[hb];exact List.mem_cons_self ..)
  cases hj:ϖI (useL s) b.1 with
  |some j=>
   have:(ϑN s).begins=[((j:Int),b.2)]:=by show ϕr (useL s) s.begins=_;rw[hb];unfold ϕr;rw[List.filterMap_cons,hj];rfl
   rw[this]
   exact ϝ1 ok hp (cl x) b.1 j b.2 hr hj
  |none=>
   have:(ϑN s).begins=[]:=by show ϕr (useL s) s.begins=_;rw[hb];unfold ϕr;rw[List.filterMap_cons,hj];rfl
   rw[this]
   show none=(ϑB s.steps (cl x) b.1 b.2).bind (endW s.ends)
   cases hz:(ϑB s.steps (cl x) b.1 b.2).bind (endW s.ends) with
   |none=>rfl
   |some y=>
    obtain⟨k,hk'⟩:=ϲN ok ⟨hr,ϝY _ _ _ y hz⟩
    rw[hj] at hk';cases hk'
def ϵN (K:Frag):Sp:=fun vs H Q _=>∃(v:V) (s:Scr) (pb ps pe a:Addr) (ns:List Int) (n:Int),vs=[v,.ref a,.int n]∧ScV K H s v pb ps pe∧OkR s∧SqL K H a (ns.map V.int)∧0≤n∧n≤50∧(∀ t∈s.steps,t.2.1.length≤1)∧∀(x:Str) H',x.length≤50→Same H H'→Q (.str x) H'
def dOp:Option Str→D
 |none=>.non
 |some x=>.str x
theorem ϛT {K:Frag}{H:Hp} (o:Option Str):Rep K H (dOp o) (optV o):=by
 cases o with
 |none=>exact rep_non
 |some x=>exact ϱx x
theorem deep_op (o:Option Str):deep (dOp o)≤60:=by cases o<;>exact Nat.zero_le _
theorem next_eq (u:Scr) (r:Int) (w:Str) (k:Nat):ϰl u (r,w) k=(u.steps.find? (stP r k)).map fun t=>(t.2.2.2,w++t.2.2.1):=by
 unfold ϰl
 rw[← List.head?_filter]
 have e:(fun t:Stp=>decide (ϰ3 t=[Sum.inl (r,w).1,Sum.inr (⟨#[k]⟩:Str)]))=stP r k:=by
  funext t
  unfold stP ϰ3
  by_cases c1:t.1=r
  ·by_cases c2:t.2.1=⟨#[k]⟩
   ·simp[c1,c2]
   ·rw[decide_eq_false (fun z=>?_),decide_eq_false c2,Bool.and_false]
    injection z with _ z
    injection z with z _
    injection z with z
    exact c2 z
  ·rw[decide_eq_false (fun z=>?_),decide_eq_false c1,Bool.false_and]
   injection z with z _
   injection z with z
   exact c1 z
 rw[e]
 cases u.steps.filter (stP r k)<;>rfl
theorem ϵ_ (u:Scr):∀(ks:List Nat) (r:Int) (w:Str),goM u (r,w) ks=ϑB u.steps ks r w
 |[],_,_=>rfl
 |k::ks,r,w=>by
  rw[ϟl,next_eq,ϕl]
  cases u.steps.find? (stP r k) with
  |none=>rfl
  |some t=>exact ϵ_ u ks _ _
theorem go_app (S:List Stp):∀(a b:List Nat) (r:Int) (w:Str),ϑB S (a++b) r w=(ϑB S a r w).bind fun c=>ϑB S b c.1 c.2
 |[],_,_,_=>rfl
 |c::a,b,r,w=>by
  rw[List.cons_append,ϕl,ϕl]
  cases S.find? (stP r c) with
  |none=>rfl
  |some t=>exact go_app S a b _ _
theorem go_w (S:List Stp) (w:Str):∀(a:List Nat) (r:Int) (v:Str),ϑB S a r (w++v)=(ϑB S a r v).map fun c=>(c.1,w++c.2)
 |[],_,_=>rfl
 |c::a,r,v=>by
  rw[ϕl,ϕl]
  cases S.find? (stP r c) with
  |none=>rfl
  |some t=>
   show ϑB S a t.2.2.2 (w++v++t.2.2.1)=(ϑB S a t.2.2.2 (v++t.2.2.1)).map _
   rw[ϱI];exact go_w S w a _ _
def runR (s:Scr) (ks:List Nat) (i:Int):Option Str:=(ϑB s.steps ks i "").bind (endW s.ends)
theorem end_w (E:List Mk) (w:Str) (c:Int×Str):endW E (c.1,w++c.2)=(endW E c).map (w++·):=by
 unfold endW
 cases E.find? fun m=>decide (m.1=c.1) with
 |none=>rfl
 |some m=>show some (w++c.2++m.2)=some (w++(c.2++m.2));rw[ϱI]
theorem ϛa (s:Scr) (ks:List Nat) (i:Int) (w:Str):(ϑB s.steps ks i w).bind (endW s.ends)=(runR s ks i).map (w++·):=by
 have h:=go_w s.steps w ks i ""
 rw[str_nil] at h
 rw[h]
 unfold runR
 cases ϑB s.steps ks i "" with
 |none=>rfl
 |some c=>exact end_w s.ends w c
theorem ϡR (s:Scr) (x:Str):runS s x=match s.begins with
  |[]=>none
  |b::_=>(runR s (cl x) b.1).map (b.2++·):=by
 unfold runS
 cases s.begins with
 |nil=>rfl
 |cons b B=>exact ϛa s (cl x) b.1 b.2
theorem ϵ8 (u:Scr) (v y:Str) (j:Int):runR u (cl (v++y)) j=(rdU u j v).bind fun c=>(runR u (cl y) c.1).map (c.2++·):=by
 unfold runR rdU
 rw[ϖ5,go_app,ϵ_]
 cases ϑB u.steps (cl v) j "" with
 |none=>rfl
 |some c=>exact ϛa u (cl y) c.1 c.2
theorem ϲu (s:Scr) (c:Nat) (ks:List Nat) (i:Int):runR s (c::ks) i=match s.steps.find? (stP i c) with
  |none=>none
  |some t=>(runR s ks t.2.2.2).map (t.2.2.1++·):=by
 unfold runR
 rw[ϕl]
 cases s.steps.find? (stP i c) with
 |none=>rfl
 |some t=>
  show(ϑB s.steps ks t.2.2.2 (""++t.2.2.1)).bind _=_
  have e:("":Str)++t.2.2.1=t.2.2.1:=ϱU (by rw[ϖ5,show cl ("":Str)=[] by decide +kernel,List.nil_append])
  rw[e]
  exact ϛa s ks _ _
theorem ϛG (s:Scr) (r:Int):ϲv s r=s.steps.filter fun t=>decide (t.1=r):=by
 have go:∀i,i≤s.steps.length→((List.range i).filter fun q=>decide (keyP 0 s.steps q=Sum.inl r)).filterMap (fun q=>s.steps[q]?)=(s.steps.take i).filter fun t=>decide (t.1=r):=by
  intro i
  induction i with
  |zero=>intro _;rfl
  |succ i ih=>
   intro hi
   have ht:s.steps[i]?=some s.steps[i]:=List.getElem?_eq_getElem hi
   rw[List.range_succ,ϑc,List.filterMap_append,ih (by omega),ϖA ht,ϑc]
   have hk:keyP 0 s.steps i=Sum.inl s.steps[i].1:=by unfold keyP;rw[ht];rfl
   rw[hk]
   by_cases c:s.steps[i].1=r
   ·rw[if_pos (by rw[c];exact decide_eq_true rfl),if_pos (by exact decide_eq_true c),List.filterMap_cons,ht];rfl
   ·rw[if_neg (fun z=>c (by have:=of_decide_eq_true z;injection this)),if_neg (fun z=>c (of_decide_eq_true z))];rfl
 have h:=go s.steps.length (Nat.le_refl _)
 rw[List.take_length] at h
 exact h
theorem ϱ4:∀(E:List Mk) (i:Int) (acc:Option Str),(E.map (·.1)).Nodup→(acc=none∨∀m∈E,m.1≠i)→E.foldl (fun o m=>if m.1=i then some m.2 else o) acc=((E.find? fun m=>decide (m.1=i)).map (·.2)).or acc
 |[],_,acc,_,_=>by cases acc<;>rfl
 |m::E,i,acc,nd,h=>by
  rw[List.map_cons,List.nodup_cons] at nd
  rw[List.foldl_cons,List.find?_cons]
  by_cases c:m.1=i
  ·have ha:acc=none:=h.resolve_right (fun z=>z m (List.mem_cons_self ..) c)
   subst ha
   have e:(if m.1=i then some m.2 else (none:Option Str))=some m.2:=if_pos c
   rw[e,decide_eq_true c,ϱ4 E i (some m.2) nd.2 (.inr fun m' hm' z=>nd.1 (by rw[c,← z];exact List.mem_map.mpr ⟨m',hm',rfl⟩))]
   have hn:(E.find? fun m=>decide (m.1=i))=none:=by
    rw[List.find?_eq_none]
    intro m' hm' z
    exact nd.1 (by rw[c,← of_decide_eq_true z];exact List.mem_map.mpr ⟨m',hm',rfl⟩)
   rw[hn];rfl
  ·have e:(if m.1=i then some m.2 else acc)=acc:=if_neg c
   rw[e,decide_eq_false c]
   exact ϱ4 E i acc nd.2 (h.imp id fun z m' hm'=>z m' (List.mem_cons_of_mem _ hm'))
theorem ϵz {s:Scr} (hp:ϖO s=true) (i:Int):ϕT s.ends i=(s.ends.find? fun m=>decide (m.1=i)).map (·.2):=by
 unfold ϕT
 rw[ϱ4 s.ends i none (plain_iff.mp hp).2.2 (.inl rfl)]
 cases (s.ends.find? fun m=>decide (m.1=i)).map (·.2)<;>rfl
theorem ϲM {p:Int}{f:Int→List Stp}{pr:Stp→Bool} (h:∀q,q≠p→∀t∈f q,pr t=false):∀P:List Int,p∈P→(P.flatMap f).find? pr=(f p).find? pr
 |[],hp=>nomatch hp
 |q::P,hp=>by
  rw[List.flatMap_cons,List.find?_append]
  by_cases c:q=p
  ·subst c
   cases hf:(f q).find? pr with
   |some t=>rfl
   |none=>
    show none.or _=none
    rw[Option.none_or,List.find?_eq_none]
    intro t ht
    obtain⟨q',hq',ht'⟩:=List.mem_flatMap.mp ht
    by_cases c':q'=q
    ·rw[c'] at ht';exact List.find?_eq_none.mp hf t ht'
    ·rw[h q' c' t ht'];exact Bool.false_ne_true
  ·have:(f q).find? pr=none:=by
    rw[List.find?_eq_none]
    intro t ht
    rw[h q c t ht];exact Bool.false_ne_true
   rw[this,Option.none_or]
   exact ϲM h P ((List.mem_cons.mp hp).resolve_left (fun z=>c z.symm))
theorem ϱZ {p:Int}{f:Int→Option Mk} (h:∀q m,f q=some m→m.1=q):∀P:List Int,p∈P→((P.filterMap f).find? fun m=>decide (m.1=p))=f p
 |[],hp=>nomatch hp
 |q::P,hp=>by
  rw[List.filterMap_cons]
  cases hf:f q with
  |none=>
   by_cases c:q=p
   ·subst c
    rw[hf]
    show(List.filterMap f P).find? _=none
    rw[List.find?_eq_none]
    intro m hm z
    obtain⟨q',_,e⟩:=List.mem_filterMap.mp hm
    have e1:=h q' m e
    rw[of_decide_eq_true z] at e1
    rw[← e1,hf] at e;cases e
   ·exact ϱZ h P ((List.mem_cons.mp hp).resolve_left (fun z=>c z.symm))
  |some m=>
   show(m::List.filterMap f P).find? _=f p
   rw[List.find?_cons]
   have e1:=h q m hf
   by_cases c:q=p
   ·rw[decide_eq_true (e1.trans c),← c,hf]
   ·rw[decide_eq_false (fun z=>c (by rw[← e1];exact z))]
    exact ϱZ h P ((List.mem_cons.mp hp).resolve_left (fun z=>c z.symm))
structure JC (s u:Scr) (P beh fr:List Int):Prop where
 go:∀p∈P,∀g∈ϕS s u p,g∈P∨g∈beh∨g∈fr
 bg:∀m∈jB s u,m.1∈P∨m.1∈beh∨m.1∈fr
theorem JC.fold {s u:Scr}:∀(fr P beh:List Int),JC s u P beh fr→JC s u (fr.foldl (rd1 s u) (P,beh)).1 (fr.foldl (rd1 s u) (P,beh)).2 []
 |[],_,_,h=>h
 |p::fr,P,beh,h=>by
  rw[List.foldl_cons]
  by_cases c:p∈P
  ·have e:rd1 s u (P,beh) p=(P,beh):=by unfold rd1;rw[if_pos c]
   rw[e]
   have sw:∀{x},x∈P∨x∈beh∨x∈p::fr→x∈P∨x∈beh∨x∈fr:=fun h=>by
    rcases h with h|h|h
    ·exact .inl h
    ·exact .inr (.inl h)
    ·rcases List.mem_cons.mp h with h|h
     ·exact .inl (h▸c)
     ·exact .inr (.inr h)
   exact JC.fold fr P beh ⟨fun q hq g hg=>sw (h.go q hq g hg),fun m hm=>sw (h.bg m hm)⟩
  ·have e:rd1 s u (P,beh) p=(P++[p],beh++ϕS s u p):=by unfold rd1;rw[if_neg c]
   rw[e]
   have sw:∀{x},x∈P∨x∈beh∨x∈p::fr→x∈P++[p]∨x∈beh++ϕS s u p∨x∈fr:=fun h=>by
    rcases h with h|h|h
    ·exact .inl (List.mem_append_left _ h)
    ·exact .inr (.inl (List.mem_append_left _ h))
    ·rcases List.mem_cons.mp h with h|h
     ·exact .inl (List.mem_append_right _ (by rw[h];exact List.mem_singleton.mpr rfl))
     ·exact .inr (.inr h)
   refine JC.fold fr _ _ ⟨fun q hq g hg=>?_,fun m hm=>sw (h.bg m hm)⟩
   rcases List.mem_append.mp hq with hq|hq
   ·exact sw (h.go q hq g hg)
   ·rw[List.mem_singleton.mp hq] at hg;exact .inr (.inl (List.mem_append_right _ hg))
theorem ϱh (s u:Scr):∀k,JC s u (itJ s u k).1 [] (itJ s u k).2
 |0=>⟨fun _ h=>(nomatch h),fun m hm=>.inr (.inr (List.mem_map.mpr ⟨m,hm,rfl⟩))⟩
 |k+1=>by
  have h:=JC.fold (itJ s u k).2 (itJ s u k).1 [] (ϱh s u k)
  exact⟨fun p hp g hg=>(h.go p hp g hg).imp id fun z=>.inr (z.resolve_right (fun y=>nomatch y)),fun m hm=>(h.bg m hm).imp id fun z=>.inr (z.resolve_right (fun y=>nomatch y))⟩
theorem join_go {s u:Scr}{k:Nat} (hk:(itJ s u k).2=[]) {p g:Int} (hp:p∈ϑC s u) (hg:g∈ϕS s u p):g∈ϑC s u:=by
 have h:=ϱh s u k
 rw[hk,← ϵC hk] at h
 exact(h.go p hp g hg).resolve_right (fun z=>z.elim (fun y=>nomatch y) (fun y=>nomatch y))
theorem join_bg {s u:Scr}{k:Nat} (hk:(itJ s u k).2=[]) {m:Mk} (hm:m∈jB s u):m.1∈ϑC s u:=by
 have h:=ϱh s u k
 rw[hk,← ϵC hk] at h
 exact(h.bg m hm).resolve_right (fun z=>z.elim (fun y=>nomatch y) (fun y=>nomatch y))
theorem ϟ_ {s u:Scr}{p:Int}{t:Stp} (ht:t∈jS s u p):t.1=p:=by
 unfold jS at ht
 obtain⟨t0,_,e⟩:=List.mem_filterMap.mp ht
 unfold jT at e
 cases hr:rdU u (p % jN u) t0.2.2.1 with
 |none=>rw[hr] at e;cases e
 |some c=>rw[hr] at e;injection e with e;rw[← e]
theorem ϵq {u:Scr}{p:Int}{t t':Stp} (h:jT u p t=some t'):∃c,rdU u (p % jN u) t.2.2.1=some c∧t'=(p,t.2.1,c.2,enc (jN u) t.2.2.2 c.1):=by
 unfold jT at h
 cases hr:rdU u (p % jN u) t.2.2.1 with
 |none=>rw[hr] at h;cases h
 |some c=>rw[hr] at h;injection h with h;exact⟨c,rfl,h.symm⟩
theorem find_jS {s u:Scr} (hs:ϖO s=true) (p:Int) (c:Nat):(jS s u p).find? (stP p c)=(s.steps.find? (stP (p / jN u) c)).bind (jT u p):=by
 have mem:∀t'∈jS s u p,stP p c t'=true→∃t∈s.steps,stP (p / jN u) c t=true∧jT u p t=some t':=fun t' ht' hst=>by
  unfold jS at ht'
  obtain⟨t,ht,e⟩:=List.mem_filterMap.mp ht'
  obtain⟨h1,h2⟩:=mem_stOut.mp ht
  obtain⟨d,_,rfl⟩:=ϵq e
  exact⟨t,h1,stP_iff.mpr ⟨h2,(stP_iff.mp hst).2⟩,e⟩
 cases hf:s.steps.find? (stP (p / jN u) c) with
 |none=>
  show _=none
  rw[List.find?_eq_none]
  intro t' ht' hst
  obtain⟨t,h1,h2,_⟩:=mem t' ht' hst
  exact List.find?_eq_none.mp hf t h1 h2
 |some t=>
  have htm:=List.mem_of_find?_eq_some hf
  have hts:=List.find?_some hf
  have uniq:∀t2∈s.steps,stP (p / jN u) c t2=true→t2=t:=fun t2 h1 h2=>by
   have:=ϱQ hs h1 h2
   rw[hf] at this;injection this with this;exact this.symm
  show _=jT u p t
  cases hj:jT u p t with
  |none=>
   rw[List.find?_eq_none]
   intro t' ht' hst
   obtain⟨t2,h1,h2,h3⟩:=mem t' ht' hst
   rw[uniq t2 h1 h2,hj] at h3;cases h3
  |some t'=>
   obtain⟨d,_,e⟩:=ϵq hj
   refine ϰz (fun t3 ht3 hst=>?_) ?_ ?_
   ·obtain⟨t2,h1,h2,h3⟩:=mem t3 ht3 hst
    rw[uniq t2 h1 h2,hj] at h3;injection h3 with h3;exact h3.symm
   ·unfold jS
    exact List.mem_filterMap.mpr ⟨t,mem_stOut.mpr ⟨htm,(stP_iff.mp hts).1⟩,hj⟩
   ·rw[e];exact stP_iff.mpr ⟨rfl,(stP_iff.mp hts).2⟩
theorem ϟo {s u:Scr} (hs:ϖO s=true) (hu:ϖO u=true) (jk:JOk s u) (ji:JI s u (ϑC s u) []) {k:Nat} (hk:(itJ s u k).2=[]):∀(ks:List Nat) (p:Int),p∈ϑC s u →
  runR (ϑ2 s u) ks p=(runR s ks (p / jN u)).bind fun y=>runR u (cl y) (p % jN u)
 |[],p,hp=>by
  have hE:((ϑ2 s u).ends.find? fun m=>decide (m.1=p))=jE1 s u p:=ϱZ (fun q m h=>ϡh h) _ hp
  have l1:=ϵz hs (p / jN u)
  show endW (ϑ2 s u).ends (p,"")=(endW s.ends (p / jN u,"")).bind _
  unfold endW
  rw[hE]
  unfold jE1
  rw[l1]
  cases s.ends.find? fun m=>decide (m.1=p / jN u) with
  |none=>rfl
  |some m=>
   show Option.map _ ((rdU u (p % jN u) m.2).bind _)=runR u (cl (""++m.2)) (p % jN u)
   rw[ϡg]
   unfold runR rdU
   rw[ϵ_]
   cases ϑB u.steps (cl m.2) (p % jN u) "" with
   |none=>rfl
   |some c=>
    show Option.map _ ((ϕT u.ends c.1).map _)=endW u.ends c
    rw[ϵz hu]
    unfold endW
    cases u.ends.find? fun m=>decide (m.1=c.1) with
    |none=>rfl
    |some e=>show some (""++(c.2++e.2))=some (c.2++e.2);rw[ϡg]
 |c::ks,p,hp=>by
  have hpr:=ji.pr p hp
  have ur:=ϰH jk hpr.1 hpr.2
  have hS:(ϑ2 s u).steps.find? (stP p c)=(s.steps.find? (stP (p / jN u) c)).bind (jT u p):=by
   rw[← find_jS hs]
   exact ϲM (fun q hq t ht=>by
    unfold stP
    rw[decide_eq_false (fun z=>hq (by rw[← ϟ_ ht];exact z)),Bool.false_and]) _ hp
  rw[ϲu,ϲu,hS]
  cases hf:s.steps.find? (stP (p / jN u) c) with
  |none=>rfl
  |some t=>
   have htm:=List.mem_of_find?_eq_some hf
   have hts:=List.find?_some hf
   show(match jT u p t with|none=>none|some t'=>(runR (ϑ2 s u) ks t'.2.2.2).map (t'.2.2.1++·))=((runR s ks t.2.2.2).map (t.2.2.1++·)).bind _
   cases hr:rdU u (p % jN u) t.2.2.1 with
   |none=>
    rw[ϟ8 hr]
    cases runR s ks t.2.2.2 with
    |none=>rfl
    |some y=>show none=runR u (cl (t.2.2.1++y)) (p % jN u);rw[ϵ8,hr];rfl
   |some d=>
    have hj:=ϝd (u:=u) (p:=p) (t:=t) hr
    have hb:=ϱW (fun t ht=>(jk.ou.ms t ht).2.2) _ _ _ (by rw[ϵj ur];exact⟨Int.emod_nonneg p (by omega),Int.emod_lt_of_pos p ur⟩) hr
    have hm:(p,t.2.1,d.2,enc (jN u) t.2.2.2 d.1)∈jS s u p:=by
     unfold jS
     exact List.mem_filterMap.mpr ⟨t,mem_stOut.mpr ⟨htm,(stP_iff.mp hts).1⟩,hj⟩
    have hg:enc (jN u) t.2.2.2 d.1∈ϑC s u:=join_go hk hp (List.mem_map.mpr ⟨_,hm,rfl⟩)
    rw[hj]
    show(runR (ϑ2 s u) ks (enc (jN u) t.2.2.2 d.1)).map (d.2++·)=_
    rw[ϟo hs hu jk ji hk ks _ hg,ϱH hb.1 (by rw[ϵj ur];exact hb.2),ϱ2 hb.1 (by rw[ϵj ur];exact hb.2)]
    cases runR s ks t.2.2.2 with
    |none=>rfl
    |some y=>show(runR u (cl y) d.1).map _=runR u (cl (t.2.2.1++y)) (p % jN u);rw[ϵ8,hr];rfl
theorem ϛk {s u:Scr} (hs:ϖO s=true) (hu:ϖO u=true) (jk:JOk s u) (ji:JI s u (ϑC s u) []) {k:Nat} (hk:(itJ s u k).2=[]) (x:Str):runS (ϑ2 s u) x=(runS s x).bind (runS u):=by
 rw[ϡR,ϡR]
 show(match jB s u with|[]=>none|b::_=>(runR (ϑ2 s u) (cl x) b.1).map (b.2++·))=_
 have hbg:=fun m=>join_bg (s:=s) (u:=u) hk (m:=m)
 unfold jB at hbg⊢
 cases hsb:s.begins with
 |nil=>rfl
 |cons b B=>
  rw[hsb] at hbg
  cases hub:u.begins with
  |nil=>
   have hn:∀y,runS u y=none:=fun y=>by rw[ϡR,hub]
   show none=((runR s (cl x) b.1).map (b.2++·)).bind (runS u)
   cases runR s (cl x) b.1 with
   |none=>rfl
   |some y=>show none=runS u (b.2++y);rw[hn]
  |cons o O=>
   rw[hub] at hbg
   have hru:∀y,runS u (b.2++y)=((rdU u o.1 b.2).bind fun c=>(runR u (cl y) c.1).map (c.2++·)).map (o.2++·):=fun y=>by
    rw[ϡR,hub]
    show(runR u (cl (b.2++y)) o.1).map _=_
    rw[ϵ8]
   have hom:o∈u.begins:=by rw[hub];exact List.mem_cons_self ..
   have ur:0 < u.rooms:=by have:=jk.ou.mb o hom;omega
   show(match (match rdU u o.1 b.2 with|none=>[]|some c=>[(enc (jN u) b.1 c.1,o.2++c.2)]) with|[]=>none|b::_=>(runR (ϑ2 s u) (cl x) b.1).map (b.2++·))=((runR s (cl x) b.1).map (b.2++·)).bind (runS u)
   have hbg:∀m,m∈(match rdU u o.1 b.2 with|none=>[]|some c=>[(enc (jN u) b.1 c.1,o.2++c.2)]:List Mk)→m.1∈ϑC s u:=hbg
   cases hr:rdU u o.1 b.2 with
   |none=>
    cases runR s (cl x) b.1 with
    |none=>rfl
    |some y=>show none=runS u (b.2++y);rw[hru,hr];rfl
   |some c=>
    rw[hr] at hbg
    have hp:=hbg (enc (jN u) b.1 c.1,o.2++c.2) (List.mem_singleton.mpr rfl)
    have hb:=ϱW (fun t ht=>(jk.ou.ms t ht).2.2) (cl b.2) (o.1,"") c (jk.ou.mb o hom) hr
    show(runR (ϑ2 s u) (cl x) (enc (jN u) b.1 c.1)).map (o.2++c.2++·)=_
    have hp:enc (jN u) b.1 c.1∈ϑC s u:=hp
    rw[ϟo hs hu jk ji hk (cl x) _ hp,ϱH hb.1 (by rw[ϵj ur];exact hb.2),ϱ2 hb.1 (by rw[ϵj ur];exact hb.2)]
    cases runR s (cl x) b.1 with
    |none=>rfl
    |some y=>
     show(runR u (cl y) c.1).map _=runS u (b.2++y)
     rw[hru,hr]
     show _=((runR u (cl y) c.1).map (c.2++·)).map (o.2++·)
     cases runR u (cl y) c.1 with
     |none=>rfl
     |some z=>show some (o.2++c.2++z)=some (o.2++(c.2++z));rw[ϱI]
theorem ϡA {f:Int→Option Mk} (h:∀q m,f q=some m→m.1=q):∀P:List Int,P.Nodup→((P.filterMap f).map (·.1)).Nodup
 |[],_=>List.nodup_nil
 |p::P,nd=>by
  rw[List.nodup_cons] at nd
  rw[List.filterMap_cons]
  cases hf:f p with
  |none=>exact ϡA h P nd.2
  |some m=>
   show((m::P.filterMap f).map (·.1)).Nodup
   rw[List.map_cons,List.nodup_cons]
   refine⟨fun hm=>?_,ϡA h P nd.2⟩
   obtain⟨m',hm',e⟩:=List.mem_map.mp hm
   obtain⟨q,hq,e'⟩:=List.mem_filterMap.mp hm'
   have:=h q m' e'
   rw[e,h p m hf] at this
   exact nd.1 (this▸hq)
theorem jS_nd {s u:Scr} (hs:ϖO s=true) (p:Int):((jS s u p).map fun t=>(t.1,t.2.1)).Nodup:=by
 have nd:=(plain_iff.mp hs).2.1
 unfold jS
 rw[ϛG]
 have h1:s.steps.Pairwise fun a b=>(a.1,a.2.1)≠(b.1,b.2.1):=List.pairwise_map.mp nd
 refine List.pairwise_map.mpr (List.pairwise_filterMap.mpr ?_)
 refine List.Pairwise.imp_of_mem ?_ (h1.filter _)
 intro a b ha hb hne t1 e1 t2 e2 z
 obtain⟨c1,_,rfl⟩:=ϵq e1
 obtain⟨c2,_,rfl⟩:=ϵq e2
 injection z with _ z
 have ha2:=of_decide_eq_true (List.mem_filter.mp ha).2
 have hb2:=of_decide_eq_true (List.mem_filter.mp hb).2
 exact hne (by rw[ha2,hb2];exact Prod.ext rfl z)
theorem ϟX {s u:Scr} (hs:ϖO s=true):∀P:List Int,P.Nodup→((P.flatMap (jS s u)).map fun t=>(t.1,t.2.1)).Nodup
 |[],_=>List.nodup_nil
 |p::P,nd=>by
  rw[List.nodup_cons] at nd
  rw[List.flatMap_cons,List.map_append,List.nodup_append]
  refine⟨jS_nd hs p,ϟX hs P nd.2,fun a ha b hb e=>?_⟩
  obtain⟨t1,h1,rfl⟩:=List.mem_map.mp ha
  obtain⟨t2,h2,rfl⟩:=List.mem_map.mp hb
  obtain⟨q,hq,h3⟩:=List.mem_flatMap.mp h2
  injection e with e _
  rw[ϟ_ h1,ϟ_ h3] at e
  exact nd.1 (e▸hq)
theorem ϟG {s u:Scr} (hs:ϖO s=true) (ji:JI s u (ϑC s u) []):ϖO (ϑ2 s u)=true:=
 plain_iff.mpr ⟨jB_len s u,ϟX hs _ ji.nd,ϡA (fun q m h=>ϡh h) _ ji.nd⟩
theorem ϝh {S:List Stp}{L:Nat} (h:∀t∈S,t.2.2.1.length≤L):∀(ks:List Nat) (r:Int) (w:Str) (c:Int×Str),ϑB S ks r w=some c→c.2.length≤w.length+L*ks.length
 |[],r,w,c,e=>by cases e;exact Nat.le_add_right _ _
 |k::ks,r,w,c,e=>by
  rw[ϕl] at e
  cases hf:S.find? (stP r k) with
  |none=>rw[hf] at e;cases e
  |some t=>
   rw[hf] at e
   have h1:=ϝh h ks _ _ c e
   have h2:=h t (List.mem_of_find?_eq_some hf)
   rw[ϕz] at h1
   rw[List.length_cons,Nat.mul_succ]
   omega
theorem rd_wl {u:Scr}{L:Nat} (wl:WdL u L) {j:Int}{w:Str}{c:Int×Str} (h:rdU u j w=some c) {M:Nat} (hw:w.length≤M):c.2.length≤L*M:=by
 unfold rdU at h
 rw[ϵ_] at h
 have h1:=ϝh wl.ws _ _ _ _ h
 rw[ϖ6] at h1
 have h2:L*w.length≤L*M:=Nat.mul_le_mul_left L hw
 have h3:("":Str).length=0:=rfl
 omega
theorem join_wl {s u:Scr}{L M:Nat} (ws:WdL s M) (wu:WdL u L):WdL (ϑ2 s u) (L*M+L):=by
 refine⟨fun m hm=>?_,fun t ht=>?_,fun m hm=>?_⟩
 ·have hm:m∈jB s u:=hm
  unfold jB at hm
  split at hm
  ·rename_i b _ o _ hb ho
   split at hm
   ·cases hm
   ·rename_i c hc
    rw[List.mem_singleton.mp hm]
    have h1:=rd_wl wu hc (ws.wb b (by rw[hb];exact List.mem_cons_self ..))
    have h2:=wu.wb o (by rw[ho];exact List.mem_cons_self ..)
    show(o.2++c.2).length≤_
    rw[ϕz];omega
  ·cases hm
 ·obtain⟨p,_,ht⟩:=List.mem_flatMap.mp (show t∈(ϑC s u).flatMap (jS s u) from ht)
  unfold jS at ht
  obtain⟨t0,h0,e⟩:=List.mem_filterMap.mp ht
  obtain⟨c,hc,rfl⟩:=ϵq e
  have h1:=rd_wl wu hc (ws.ws t0 (mem_stOut.mp h0).1)
  show c.2.length≤_
  omega
 ·obtain⟨p,_,e⟩:=List.mem_filterMap.mp (show m∈(ϑC s u).filterMap (jE1 s u) from hm)
  unfold jE1 at e
  cases h1:ϕT s.ends (p / jN u) with
  |none=>rw[h1] at e;cases e
  |some w=>
   rw[h1] at e
   have e:(rdU u (p % jN u) w).bind (fun c=>(ϕT u.ends c.1).map fun y=>(p,c.2++y))=some m:=e
   cases h2:rdU u (p % jN u) w with
   |none=>rw[h2] at e;cases e
   |some c=>
    rw[h2] at e
    have e:(ϕT u.ends c.1).map (fun y=>(p,c.2++y))=some m:=e
    cases h3:ϕT u.ends c.1 with
    |none=>rw[h3] at e;cases e
    |some y=>
     rw[h3] at e
     injection e with e
     rw[← e]
     have h4:=rd_wl wu h2 (ws.we _ (ϰw h1))
     have h5:y.length≤L:=wu.we _ (ϰw h3)
     show(c.2++y).length≤_
     rw[ϕz];omega
theorem ϟq {s:Scr}{n:Nat} (ok:OkS true s n):ϖO s=true:=by
 have h1:=ok.pb rfl
 have h2:(outs s).Nodup:=by
  unfold outs
  have e:(s.steps.map fun t=>([Sum.inl t.1,Sum.inr t.2.1]:List Key))=(s.steps.map fun t=>(t.1,t.2.1)).map fun p=>[Sum.inl p.1,Sum.inr p.2]:=by rw[List.map_map];rfl
  rw[e]
  refine List.Pairwise.map _ (fun a b z y=>z ?_) (ok.po rfl)
  injection y with y1 y2
  injection y1 with y1
  injection y2 with y2
  injection y2 with y2
  exact Prod.ext y1 y2
 have h3:(ϑw s).Nodup:=by
  unfold ϑw
  have e:(s.ends.map fun m=>(Sum.inl m.1:Key))=(s.ends.map (·.1)).map Sum.inl:=by rw[List.map_map];rfl
  rw[e]
  exact List.Pairwise.map _ (fun a b z y=>z (by injection y)) (ok.pe rfl)
 unfold ϖO
 rw[decide_eq_false (show ¬ s.begins.length > 1 by omega),decide_eq_true h2,decide_eq_true h3]
 rfl
def ϛh (K:Frag):Sp:=fun vs H Q _=>∃(a:Addr) (ns:List Int),vs=[.ref a]∧SqL K H a (ns.map V.int)∧ns.length≤63∧∀H',Q (.bl true) H'
theorem ϲm {s:Scr}{n:Nat} (h1:OkS true s n):ϝF s:=by
 have sg:∀{x:Str}{g:Str},(∃ c∈cl g,x=⟨#[c]⟩)→x.length≤100:=fun⟨c,_,e⟩=>by subst e;show(1:Nat)≤100;decide
 refine⟨fun m hm=>?_,fun t ht=>?_,fun m hm=>?_⟩
 ·exact Nat.le_trans (h1.mb m hm).2.2.1 (by decide)
 ·obtain⟨z1,z2,z3,z4,z5,z6⟩:=h1.ms t ht;exact⟨sg z3,Nat.le_trans z4.1 (by decide)⟩
 ·exact Nat.le_trans (h1.me m hm).2.2.1 (by decide)
theorem okS_R {s:Scr} (h1:OkS true s 62) (r1:s.rooms≤14):OkR s:=
 ⟨Nat.le_trans h1.lb (by decide),Nat.le_trans h1.ls (by decide),Nat.le_trans h1.le (by decide),by omega,fun m hm=>⟨(h1.mb m hm).1,(h1.mb m hm).2.1⟩,fun t ht=>by obtain⟨z1,z2,z3,z4,z5,z6⟩:=h1.ms t ht;exact⟨z1,z2,z5,z6⟩,fun m hm=>⟨(h1.me m hm).1,(h1.me m hm).2.1⟩⟩
theorem ϛp {s:Scr} (ok:OkR s):OkR (ϑN s):=by
 have hl:=ϲL ok
 refine⟨Nat.le_trans (ϰL _ _) ok.lb,?_,Nat.le_trans (ϰL _ _) ok.le,by show((useL s).length:Int)≤999;omega,fun m hm=>?_,fun t ht=>?_,fun m hm=>?_⟩
 ·show((s.steps.filter (inUs (useL s))).map _).length≤19999
  rw[List.length_map]
  have:=List.length_filter_le (inUs (useL s)) s.steps
  have:=ok.ls
  omega
 ·obtain⟨m0,_,j,hj,rfl⟩:=mem_keptM.mp hm
  have:=(List.getElem?_eq_some_iff.mp (ϕC hj)).1
  exact⟨by show(0:Int)≤(j:Int);omega,by show(j:Int) < ((useL s).length:Int);omega⟩
 ·obtain⟨u,_,j,k,hj,hk,rfl⟩:=mem_keptS.mp ht
  have h1:=(List.getElem?_eq_some_iff.mp (ϕC hj)).1
  have h2:=(List.getElem?_eq_some_iff.mp (ϕC hk)).1
  exact⟨by show(0:Int)≤(j:Int);omega,by show(j:Int) < ((useL s).length:Int);omega,by show(0:Int)≤(k:Int);omega,by show(k:Int) < ((useL s).length:Int);omega⟩
 ·obtain⟨m0,_,j,hj,rfl⟩:=mem_keptM.mp hm
  have:=(List.getElem?_eq_some_iff.mp (ϕC hj)).1
  exact⟨by show(0:Int)≤(j:Int);omega,by show(j:Int) < ((useL s).length:Int);omega⟩
theorem ϡG (s:Scr) (h:0≤s.rooms):(ϑN s).rooms≤s.rooms:=by
 have:=List.length_filter_le (fun r=>@decide (Use s r) (Classical.propDecidable _)) ((List.range s.rooms.toNat).map fun k:Nat=>(k:Int))
 rw[List.length_map,List.length_range] at this
 show((useL s).length:Int)≤s.rooms
 unfold useL
 omega
theorem ScN.put {K:Frag}{H:Hp}{s:Scr}{v:V}{pb ps pe l:Addr}{xs:List V}{o:HO} (h:ScN K H s v pb ps pe) (hl:H l=some (.lst xs)) (n1:pb≠l) (n2:ps≠l) (n3:pe≠l):ScN K (upd H l o) s v pb ps pe:=by
 obtain⟨a,xb,xs,xe,e,h1,h2,h3,h4,h5,h6,h7⟩:=h
 have gt:=ϱG hl o
 exact⟨a,xb,xs,xe,e,gt.seqT h1,(ϖp n1).trans h2,(ϖp n2).trans h3,(ϖp n3).trans h4,ϖb (fun _ _=>MkV.gt gt) h5,ϖb (fun _ _=>StV.gt gt) h6,ϖb (fun _ _=>MkV.gt gt) h7⟩
def ϡd (K:Frag):Sp:=fun vs H Q _=>∃v s pb ps pe,vs=[v]∧ScN K H s v pb ps pe∧OkR s∧ϖO s=true∧(∀ t∈s.steps,∃c∈cl s.signs,t.2.1=⟨#[c]⟩)∧s.steps.length≤999∧∀H',Same H H'→Q (.bl true) H'
def cdT (g:List Nat) (n:Nat) (t:Stp):Int:=enc (n:Int) t.1 ((g.idxOf ((cl t.2.1).headD 0):Nat):Int)
theorem ϝJ {s:Scr} (hp:ϖO s=true) (ok:OkR s) (sg:∀t∈s.steps,∃c∈cl s.signs,t.2.1=(⟨#[c]⟩:Str)) {R n:Nat} (hR:s.rooms≤(R:Int)) (hn:s.signs.length≤n):s.steps.length≤R*n:=by
 have hin:∀t∈s.steps,∃c∈cl s.signs,t.2.1=(⟨#[c]⟩:Str)∧(cl s.signs).idxOf ((cl t.2.1).headD 0)=(cl s.signs).idxOf c∧(cl s.signs).idxOf c < n:=fun t ht=>by
  obtain⟨c,hc,e⟩:=sg t ht
  refine⟨c,hc,e,by rw[e];rfl,?_⟩
  have:=List.idxOf_lt_length_of_mem hc
  rw[ϖ6] at this
  omega
 have nd:(s.steps.map (cdT (cl s.signs) n)).Nodup:=by
  have h1:s.steps.Pairwise fun a b=>(a.1,a.2.1)≠(b.1,b.2.1):=List.pairwise_map.mp (plain_iff.mp hp).2.1
  refine List.pairwise_map.mpr (List.Pairwise.imp_of_mem ?_ h1)
  intro a b ha hb hne e
  obtain⟨c,hc,ea,ia,la⟩:=hin a ha
  obtain⟨d,hd,eb,ib,lb⟩:=hin b hb
  unfold cdT at e
  rw[ia,ib] at e
  have q1:=congrArg (· / (n:Int)) e
  have q2:=congrArg (· % (n:Int)) e
  rw[ϱH (by omega) (by omega),ϱH (by omega) (by omega)] at q1
  rw[ϱ2 (by omega) (by omega),ϱ2 (by omega) (by omega)] at q2
  have ei:(cl s.signs).idxOf c=(cl s.signs).idxOf d:=by omega
  have g1:=List.getElem_idxOf (List.idxOf_lt_length_of_mem hc)
  have g2:=List.getElem_idxOf (List.idxOf_lt_length_of_mem hd)
  have ecd:c=d:=by
   rw[← g1,← g2]
   congr 1
  exact hne (by rw[q1,ea,eb,ecd])
 have:=ϱP (R*n) (s.steps.map (cdT (cl s.signs) n)) nd fun x hx=>by
  obtain⟨t,ht,rfl⟩:=List.mem_map.mp hx
  obtain⟨c,hc,ea,ia,la⟩:=hin t ht
  have hr:=ok.ms t ht
  unfold cdT
  rw[ia]
  have:=ϡi (N:=(n:Int)) (R:=(R:Int)) (i:=t.1) (j:=(((cl s.signs).idxOf c:Nat):Int)) (by omega) (by omega) hr.1 (by omega)
  rw[Int.natCast_mul]
  exact this
 rw[List.length_map] at this
 exact this
def ϡo (K:Frag):Sp:=fun vs H Q _=>∃(a:Addr) (ns:List Int) (salt most:Int) (g:Str),vs=[.ref a,.int salt,.int most,.str g]∧SqL K H a (ns.map V.int)∧ns.length≤63∧0≤salt∧salt≤8000∧0≤most∧most≤14∧ϝQ g∧∀v H' s pb ps pe,s.signs=g→NewS K H H' true 62 s v pb ps pe→s.rooms≤most→Q v H'
def ϟ4 (K:Frag):Sp:=fun vs H Q _=>∃v s pb ps pe x L,vs=[v,.str x]∧ScV K H s v pb ps pe∧OkR s∧WdL s L∧L*(x.length+2)≤99000∧∀H',Same H H'→Q (optV (runS s x)) H'
theorem sg_six:∀v∈[V.str "a",V.str "ab",V.str "ba",V.str "abc",V.str "zba",V.str "abxyz"],isSgn v:=by
 intro v hv
 simp only[List.mem_cons,List.not_mem_nil,or_false] at hv
 rcases hv with rfl|rfl|rfl|rfl|rfl|rfl<;>exact⟨_,rfl,by unfold ϝQ;decide +kernel⟩
theorem run_wl {s:Scr}{L:Nat} (wl:WdL s L) {x y:Str} (h:runS s x=some y):y.length≤L*(x.length+2):=by
 unfold runS at h
 cases hb:s.begins with
 |nil=>rw[hb] at h;cases h
 |cons b B=>
  rw[hb] at h
  have h:(ϑB s.steps (cl x) b.1 b.2).bind (endW s.ends)=some y:=h
  cases hg:ϑB s.steps (cl x) b.1 b.2 with
  |none=>rw[hg] at h;cases h
  |some c=>
   rw[hg] at h
   have h:endW s.ends c=some y:=h
   unfold endW at h
   obtain⟨m,hm,rfl⟩:=Option.map_eq_some_iff.mp h
   have h1:=ϝh wl.ws _ _ _ _ hg
   have h2:=wl.we m (List.mem_of_find?_eq_some hm)
   have h3:=wl.wb b (by rw[hb];exact List.mem_cons_self ..)
   rw[ϖ6] at h1
   rw[ϕz,Nat.mul_add]
   omega
section
seal L2.PE L2.PT L2.PW L2.PA L2.PS L2.PSs L2.PC L2.PG L2.PGs L2.PI L2.PO
variable {P:Program}{w:World}{K:Frag}{mg:Str→Option Value}{base:Heap}
theorem ϲc:FnScope ["parts"] ["parts"] (ϖj ϑJ):=⟨rfl,rfl,rfl,by decide +kernel,rfl,by decide +kernel,by decide +kernel⟩
theorem ϵ3 (B:Bi mg) {ϖe ϖi:Addr} (XB:Xb K mg ϖe ϖi)  {f:Addr}{fd:FuncData} (F:Fun K "all_unlike" "all_unlike" ϑJ f fd):FnOk P w K mg base CX0 1 f fd ["parts"] (ϵP K):=by
 refine F.ok ϲc (fun vs H Q E h=>?_) (fun cdv A outer s H vs Q E hr h=>?_)
 ·obtain⟨p,rfl,_⟩:=h;rfl
 obtain⟨p,rfl,h⟩:=h
 refine⟨_,(ϖk (ϖE (ϵS ϰ4 (ϖy call_len_set (by rfl) B.len ϑk (ϖa (hs:=ϕj) (ϑy (ϵ0 hr (by rfl)) (by rfl) B.set ϟW (ϖa (pv 0) ϖf)) ϖf)) (ϖy (kLen (K:=K)) (by rfl) B.len ϑk (ϖa (pv 0) ϖf)) (ϖH _)))),?_⟩
 rcases h with⟨ys,ks,hS,hP,hl,q⟩|⟨ks,hS,hl,q⟩
 ·have hle:=ϕv ks.reverse
  rw[List.length_reverse] at hle
  refine⟨_,rfl,.inl ⟨_,ys,ks,rfl,hS,hP,hl,fun d hd=>?_⟩⟩
  refine⟨_,_,rfl,ϖc,by omega,_,rfl,p,ys,rfl,.inl ((ϖg hd _).seq hS),rfl,?_⟩
  have e:decide (V.int ((ϑv ks.reverse:Nat):Int)=V.int (ys.length:Int))=decide ks.Nodup:=by rw[ϟb,← hP.length,ϰN]
  show Q (.bl (decide (V.int ((ϑv ks.reverse:Nat):Int)=V.int (ys.length:Int)))) _
  rw[e]
  exact q _ (ϖg hd _)
 ·have hle:=ϕv ks.reverse
  rw[List.length_reverse] at hle
  refine⟨_,rfl,.inr ⟨_,ks,rfl,hS,hl,fun d hd=>?_⟩⟩
  refine⟨_,_,rfl,ϖc,by omega,_,rfl,p,_,rfl,.inl ((ϖg hd _).seq hS),rfl,?_⟩
  have e:decide (V.int ((ϑv ks.reverse:Nat):Int)=V.int ((ks.map kV).length:Int))=decide ks.Nodup:=by rw[ϟb,List.length_map,ϰN]
  show Q (.bl (decide (V.int ((ϑv ks.reverse:Nat):Int)=V.int ((ks.map kV).length:Int)))) _
  rw[e]
  exact q _ (ϖg hd _)
theorem ϡI:FnScope ["scribe"] ["scribe"] (ϖj ϕf):=⟨rfl,rfl,rfl,by decide +kernel,rfl,by decide +kernel,by decide +kernel⟩
theorem ϲ8 (B:Bi mg) {ϖe ϖi:Addr} (XB:Xb K mg ϖe ϖi) (ϕx:Cal P w K mg base "all_unlike" ["parts"] 1 (ϵP K)) {f:Addr}{fd:FuncData} (F:Fun K "is_plain" "is_plain" ϕf f fd):FnOk P w K mg base CX0 2 f fd ["scribe"] (ϡf K):=by
 refine F.ok ϡI (fun vs H Q E h=>?_) (fun cdv A outer s H vs Q E hr h=>?_)
 ·obtain⟨v,s,pb,ps,pe,rfl,_⟩:=h;rfl
 obtain⟨v,s,pb,ps,pe,rfl,hV,hs,he,q⟩:=h
 refine⟨_,(ϖd (ϑm (ϖx ϵl (ϖy (kLen (K:=K)) (by rfl) B.len ϑk (ϖa (hs:=ϖQ) (ϖq (kIx (K:=K) rIxT ϖl) (pv 0) (ϖw (by rfl) B.BEGINS) (by intro _ _;rfl)) ϖf)) ϖh (ϖH _)) (ϖk (ϖE ϱg)) ϖG)
   (ϖd (ϑm (ϕ1 (ϕ4 (ϖM ϕx hr (by decide:1≤1) (by rfl) (ϖa (ϑR rfl (ϑx (N':=["step"]) (js:=[none]) rfl (by decide +kernel) rfl (by decide +kernel) rfl rfl) (kPI (K:=K) (fun k=>ϑO k _) (ϖR (ϖq (kIx (K:=K) rIxT ϖl) (pv 0) (ϖw (by rfl) B.STEPS) (by intro _ _;rfl)))) (fun _ _ _ _ _=>(ϖm (i:=0) (show List.Nodup (["step"]:List Str) by decide +kernel) rfl (Or.inl rfl))) (fun _ _ _ _ _=>ϕs) (fun _ _ _ _ _=>(ϑl (ϖa (hs:=ϖQ) (ϖq (kIx (K:=K) rIxT ϖl) (pv 0) ϖh (by intro _ _;rfl)) (ϖa (hs:=ϖQ) (ϖq (kIx (K:=K) rIxT ϖl) (pv 0) ϖh (by intro _ _;rfl)) ϖf))))) ϖf)))) (ϖk (ϖE ϱg)) ϖG)
   (ϖk (ϖE (ϖM ϕx hr (by decide:1≤1) (by rfl) (ϖa (ϑR rfl (ϑx (N':=["end"]) (js:=[none]) rfl (by decide +kernel) rfl (by decide +kernel) rfl rfl) (kPI (K:=K) (fun k=>ϑO k _) (ϖR (ϖq (kIx (K:=K) rIxT ϖl) (pv 0) (ϖw (by rfl) B.ENDS) (by intro _ _;rfl)))) (fun _ _ _ _ _=>(ϖm (i:=0) (show List.Nodup (["end"]:List Str) by decide +kernel) rfl (Or.inl rfl))) (fun _ _ _ _ _=>ϕs) (fun _ _ _ _ _=>(ϖq (kIx (K:=K) rIxT ϖl) (pv 0) ϖh (by intro _ _;rfl)))) ϖf)))))),?_⟩
 obtain⟨a,xb,xs,xe,rfl,h1,h2,h3,h4,h5,h6,h7⟩:=hV
 have l5:s.begins.length=xb.length:=h5.length
 refine⟨_,rfl,_,_,_,_,rfl,rfl,h1,rfl,_,_,rfl,.inl h2,_,_,rfl,rfl,_,rfl,?_⟩
 refine ϑ8 (fun c=>?_) (fun c=>?_)
 ·have e:ϖO s=false:=by
   unfold ϖO
   rw[decide_eq_true (show s.begins.length > 1 by omega)];rfl
  have q':=q H (Same.refl H)
  rw[e] at q'
  exact q'
 have lo:(outs s).length=xs.length:=by unfold outs;rw[List.length_map];exact h6.length
 refine⟨_,rfl,_,_,_,_,rfl,rfl,h1,rfl,ps,rfl,⟨xs,h3⟩,?_⟩
 refine ϖU (xs:=xs) (fun i ys τ H'=>Same H H'∧(∃ x,τ=[x])∧i≤999∧ys.length=i∧Paired (KeyV K H') ((outs s).take i) ys) ⟨Same.refl H,⟨_,rfl⟩,Nat.zero_le _,rfl,.nil⟩ (fun i ys τ H' z=>z.1.seq h3) ?_ ?_
 ·rintro i x ys τ H' hx ⟨g,⟨y,rfl⟩,hi,hy,hP⟩
  obtain⟨t,ht,b,rfl,hb⟩:=ϖr h6 hx
  have hb':=(Same.grow g).seqT hb
  have hil:i < xs.length:=(List.getElem?_eq_some_iff.mp hx).1
  have hsl:s.steps.length=xs.length:=h6.length
  refine⟨_,rfl,_,_,_,_,rfl,rfl,hb',rfl,_,rfl,_,_,_,_,rfl,rfl,hb',rfl,(by show 2≤sizeLine;decide),fun p hp=>⟨szl' (by omega),g.trans (ϖg hp _),⟨_,rfl⟩,by omega,by rw[List.length_append];show ys.length+1=i+1;omega,?_⟩⟩
  have e:(outs s).take (i+1)=(outs s).take i++[[Sum.inl t.1,Sum.inr t.2.1]]:=by
   have:(outs s)[i]?=some [Sum.inl t.1,Sum.inr t.2.1]:=by unfold outs;rw[List.getElem?_map,ht];rfl
   rw[List.take_add_one,this];rfl
  rw[e]
  exact ϖo (ϖb (fun _ _=>KeyV.mono (ϕb hp _)) hP) (.cons ⟨p,rfl,SqT.of ϖc⟩ .nil)
 rintro ys τ H1 ⟨g1,_,_,hy1,hP1⟩ p hp
 rw[← lo,List.take_length] at hP1
 refine⟨p,rfl,.inl ⟨ys,outs s,SqL.of ϖc,ϖb (fun _ _=>KeyV.mono (ϕb hp _)) hP1,by omega,fun H2 g2=>?_⟩⟩
 have g:=(g1.trans (ϖg hp _)).trans g2
 refine⟨_,rfl,?_⟩
 refine ϰX (fun c2=>?_) (fun c2=>?_)
 ·have e:ϖO s=false:=by
   unfold ϖO
   rw[decide_eq_false c2,Bool.and_false,Bool.false_and]
  have q':=q H2 g
  rw[e] at q'
  exact q'
 have h1':=Same.seqT g h1
 have h4':=g.seq h4
 have h7':Paired (MkV K H2) s.ends xe:=ϖb (fun _ _=>MkV.mono (Same.grow g)) h7
 have le:(ϑw s).length=xe.length:=by unfold ϑw;rw[List.length_map];exact h7.length
 refine⟨_,rfl,_,_,_,_,rfl,rfl,h1',rfl,pe,rfl,⟨xe,h4'⟩,?_⟩
 refine ϖU (xs:=xe) (fun i ys τ H'=>H2=H'∧(∃ x,τ=[x])∧i≤999∧ys.length=i∧ys=((ϑw s).take i).map kV) ⟨rfl,⟨_,rfl⟩,Nat.zero_le _,rfl,rfl⟩ (fun i ys τ H' z=>z.1▸h4') ?_ ?_
 ·rintro i x ys τ H' hx ⟨rfl,⟨y,rfl⟩,hi,hy,hP⟩
  obtain⟨t,ht,b,rfl,hb⟩:=ϖr h7' hx
  have hil:i < xe.length:=(List.getElem?_eq_some_iff.mp hx).1
  have hsl:s.ends.length=xe.length:=h7.length
  refine⟨_,rfl,_,_,_,_,rfl,rfl,hb,rfl,szl' (by omega),rfl,⟨_,rfl⟩,by omega,by rw[List.length_append];show ys.length+1=i+1;omega,?_⟩
  have e:(ϑw s).take (i+1)=(ϑw s).take i++[Sum.inl t.1]:=by
   have:(ϑw s)[i]?=some (Sum.inl t.1):=by unfold ϑw;rw[List.getElem?_map,ht];rfl
   rw[List.take_add_one,this];rfl
  rw[e,List.map_append,hP]
  rfl
 rintro ys τ H3 ⟨rfl,_,_,hy3,hP3⟩ p3 hp3
 rw[← le,List.take_length] at hP3
 refine⟨p3,rfl,.inr ⟨ϑw s,by rw[← hP3];exact SqL.of ϖc,by omega,fun H4 g4=>?_⟩⟩
 have e:ϖO s=decide (ϑw s).Nodup:=by
  unfold ϖO
  rw[decide_eq_false (show ¬ s.begins.length > 1 by omega),decide_eq_true c2];rfl
 have q':=q H4 ((g.trans (ϖg hp3 _)).trans g4)
 rw[e] at q'
 exact q'
theorem ϱi:FnScope ["scribe"] ["scribe"] (ϖj ϖ1):=⟨rfl,rfl,rfl,by decide +kernel,rfl,by decide +kernel,by decide +kernel⟩
theorem ϱc (B:Bi mg) {ϖe ϖi:Addr} (XB:Xb K mg ϖe ϖi) (ϰY:Cal P w K mg base "is_plain" ["scribe"] 2 (ϡf K)) {f:Addr}{fd:FuncData} (F:Fun K "refuse_choices" "refuse_choices" ϖ1 f fd):FnOk P w K mg base (CX1 P w) 3 f fd ["scribe"] (ϱ5 K ϖe):=by
 refine Fun.ok1 F ϱi (fun vs H Q E h=>?_) (fun cdv A outer s H vs Q E hr h=>?_)
 ·obtain⟨v,s,pb,ps,pe,rfl,_⟩:=h;rfl
 obtain⟨v,s,pb,ps,pe,rfl,hV,ls,le,q,hE⟩:=h
 refine⟨_,(ϖk (ϑm (ϕ1 (ϕ4 (ϖM ϰY hr (by decide:2≤2) (by rfl) (ϖa (pv 0) ϖf)))) (ϖk (ϡS XB.own_NotPlain (by rfl) (by rfl) ϡ3 ϑ3)) ϖG)),?_⟩
 refine⟨_,rfl,_,s,pb,ps,pe,rfl,hV,ls,le,fun H1 g1=>⟨_,rfl,?_⟩⟩
 cases hpl:ϖO s with
 |false=>exact iteT ⟨rfl,hE hpl _ g1⟩
 |true=>exact iteF (q hpl _ g1)
theorem ϰj:FnScope ["one","other"] ["one","other"] (ϖj ϖS):=⟨rfl,rfl,rfl,by decide +kernel,rfl,by decide +kernel,by decide +kernel⟩
theorem ϰk (B:Bi mg) {ϖe ϖi:Addr} (XB:Xb K mg ϖe ϖi)  {f:Addr}{fd:FuncData} (F:Fun K "refuse_many_pairs" "refuse_many_pairs" ϖS f fd):FnOk P w K mg base (CX1 P w) 1 f fd ["one","other"] (ϵJ K ϖi):=by
 refine Fun.ok1 F ϰj (fun vs H Q E h=>?_) (fun cdv A outer s H vs Q E hr h=>?_)
 ·obtain⟨v,s,pb,ps,pe,w,u,qb,qs,qe,rfl,_⟩:=h;rfl
 obtain⟨v,s,pb,ps,pe,w,u,qb,qs,qe,rfl,hV,hU,hn,q,hE⟩:=h
 refine⟨_,(ϖk (ϑm (ϖx ϵl (ϖt ϕu (ϖq (kIx (K:=K) rIxT ϖl) (pv 0) (ϖw (by rfl) B.ROOMS) (by intro _ _;rfl)) (ϖq (kIx (K:=K) rIxT ϖl) (pv 1) (ϖw (by rfl) B.ROOMS) (by intro _ _;rfl))) (ϖw (by rfl) B.MOST_ROOMS) (ϖH _)) (ϖk (ϡS XB.own_TooMany (by rfl) (by rfl) ϡ3 ϑ3)) ϖG)),?_⟩
 obtain⟨a,xb,xs,xe,rfl,h1,h2,h3,h4,h5,h6,h7⟩:=hV
 obtain⟨b,yb,ys,ye,rfl,k1,k2,k3,k4,k5,k6,k7⟩:=hU
 refine⟨_,rfl,_,_,_,_,rfl,rfl,h1,rfl,_,rfl,_,_,_,_,rfl,rfl,k1,rfl,_,_,rfl,rfl,.inl ⟨by have:=hn.1;omega,by have:=hn.2;omega⟩,_,_,rfl,rfl,_,rfl,ϑ8 (fun c=>?_) (fun c=>?_)⟩
 ·exact⟨rfl,hE (by omega)⟩
 ·exact q (by omega)
theorem sc_steps_by_start:FnScope ["scribe","found","step"] ["scribe"] (ϖj ϖ3):=⟨rfl,rfl,rfl,by decide +kernel,rfl,by decide +kernel,by decide +kernel⟩
theorem ϰV (B:Bi mg) {ϖe ϖi:Addr} (XB:Xb K mg ϖe ϖi)  {f:Addr}{fd:FuncData} (F:Fun K "steps_by_start" "steps_by_start" ϖ3 f fd):FnOk P w K mg base CX0 1 f fd ["scribe"] (ϱy K):=by
 refine F.ok sc_steps_by_start (fun vs H Q E h=>?_) (fun cdv A outer s H vs Q E hr h=>?_)
 ·obtain⟨v,s,pb,ps,pe,rfl,_⟩:=h;rfl
 obtain⟨v,s,pb,ps,pe,rfl,hV,hs,q⟩:=h
 refine⟨_,(ϖd (ϖn (i:=1) sc_steps_by_start.nd rfl (Or.inl rfl) ϰa)
   (ϖd (ϑs PassesOwn.never (by rfl) (kPI (K:=K) (fun k=>ϑO k _) (ϖR (ϖq (kIx (K:=K) rIxT ϖl) (pv 0) (ϖw (by rfl) B.STEPS) (by intro _ _;rfl)))) (ϖm (i:=2) sc_steps_by_start.nd rfl (Or.inl rfl)) (ϖk (ϑ6 (kPE (K:=K) (fun k=>tBM k _ _ _ _) (ϰB PySem.F.plainAttrs_list PySem.F.slot_list_append PySem.F.type_list_append ϕI (kPE (K:=K) (fun k=>tBM k _ _ _ _) (ϰB PySem.F.plainAttrs_dict PySem.F.slot_dict_setdefault PySem.F.type_dict_setdefault (ϰC hr) (pv 1) (ϖa (hs:=ϲo) (ϑl (ϖa (hs:=ϖQ) (ϖq (kIx (K:=K) rIxT ϖl) (pv 2) ϖh (by intro _ _;rfl)) (ϖa (hs:=ϖQ) (ϖq (kIx (K:=K) rIxT ϖl) (pv 2) ϖh (by intro _ _;rfl)) ϖf))) (ϖa (hs:=ϡz) (ϖV ϖf) ϖf)))) (ϖa (pv 2) ϖf))))))
   (ϖk (ϖE (pv 1))))),?_⟩
 obtain⟨a,xb,xs,xe,rfl,h1,h2,h3,h4,h5,h6,h7⟩:=hV
 rw[h6.length] at hs
 refine fun d hd=>?_
 have g0:=ϖg hd (.dT [])
 refine⟨_,rfl,_,_,_,_,rfl,rfl,Same.seqT g0 h1,rfl,ps,rfl,⟨xs,g0.seq h3⟩,?_⟩
 let Iv_1:Nat→L2.St→Hp→Prop:=(fun i σ H'=>Same H H'∧i≤xs.length∧(∃ x,σ=[some (.ref a),some (.ref d),x])∧∃kvs,H' d=some (.dT kvs)∧Bk (StV K) ϰ3 H H' d (s.steps.take i) kvs)
 refine ϑK (xs:=xs) Iv_1
  ⟨g0,Nat.zero_le _,⟨_,rfl⟩,[],ϖc,Bk.nil⟩ (fun i σ H' _ z=>z.1.seq h3) (fun b_ r_ hb_ hr_=>?_) ?_
 ·rintro i x σ H1 hx ⟨g1,hi,⟨x2,rfl⟩,kvs,hkd,bk⟩
  obtain⟨t,ht,b,rfl,hb⟩:=ϖr h6 hx
  have hil:i < xs.length:=(List.getElem?_eq_some_iff.mp hx).1
  have hb1:=(Same.grow g1).seqT hb
  have hkl:kvs.length≤999:=by have:=bk.len;rw[List.length_take] at this;omega
  refine⟨_,rfl,.inr (.inr (.inl ⟨rfl,.inr ⟨kvs,hkd⟩⟩)),?_⟩
  refine⟨_,rfl,_,_,_,_,rfl,rfl,hb1,rfl,_,rfl,_,_,_,_,rfl,rfl,hb1,rfl,(by show 2≤sizeLine;decide),fun p hp=>?_⟩
  have gp:=ϖg hp (.tup [V.int t.1,V.str t.2.1])
  have ep:upd H1 p (.tup [V.int t.1,V.str t.2.1]) p=some (.tup ((ϰ3 t).map kV)):=ϖc
  refine⟨szl (by simp),fun l hl=>?_⟩
  have gl:=ϖg hl (.lst [])
  have hk2:=(gp.trans gl) _ _ hkd
  have bk2:=bk.mono (ϡN K) (gp.trans gl)
  have g2:=(g1.trans gp).trans gl
  have hb2:=(Same.grow (gp.trans gl)).seqT hb1
  have el:upd (upd H1 p (.tup [V.int t.1,V.str t.2.1])) l (.lst []) l=some (.lst []):=ϖc
  have hl0:H l=none:=(g1.trans gp).free hl
  have hln:∀k,valV kvs k≠some (.ref l):=fun k hk=>by
   obtain⟨l',ys,e,_,_,h3',_⟩:=bk.there k _ hk
   injection e with e
   subst e
   rw[gp _ _ h3'] at hl;cases hl
  have hld:l≠d:=(ϖs (gp _ _ hkd) hl).symm
  have ep2:=gl _ _ ep
  generalize upd (upd H1 p (.tup [V.int t.1,V.str t.2.1])) l (.lst [])=H2 at hk2 bk2 g2 hb2 el ep2⊢
  refine⟨d,.ref p,.ref l,rfl,rfl,.inr ⟨kvs,ϰ3 t,p,hk2,rfl,ep2,szl' (by omega),fun r hr2=>?_,fun hn=>?_⟩⟩
  ·obtain⟨l2,ys,rfl,j1,j2,j3,j4,j5⟩:=bk2.there _ _ hr2
   have hyl:ys.length≤999:=by
    rw[← j4.length]
    have:=List.length_filter_le (fun t'=>decide (ϰ3 t'=ϰ3 t)) (s.steps.take i)
    rw[List.length_take] at this;omega
   refine⟨.inl ⟨rfl,_,SqL.of j3⟩,_,rfl,l2,ys,_,rfl,rfl,j3,szl' (by omega),?_⟩
   refine⟨ϖC g2 j1,hil,⟨_,rfl⟩,kvs,by rw[ϖp j2.symm];exact hk2,?_⟩
   rw[ϖA ht]
   exact bk2.put (ϡN K) hr2 j3 ⟨b,rfl,hb2⟩
  ·have e3:upd H2 d (.dT (putK kvs (ϰ3 t) (.ref l))) l=some (.lst []):=by rw[ϖp hld];exact el
   refine⟨.inl ⟨rfl,_,SqL.of e3⟩,_,rfl,l,[],_,rfl,rfl,e3,szl' (by simp),?_⟩
   refine⟨ϖC (ϖC g2 hd) hl0,hil,⟨_,rfl⟩,putK kvs (ϰ3 t) (.ref l),by rw[ϖp hld.symm];exact ϖc,?_⟩
   rw[ϖA ht]
   exact bk2.new (ϡN K) hn hl0 hld hk2 (fun _ z=>nomatch z) (fun _ _ z=>nomatch z) hln el ⟨b,rfl,hb2⟩
 rintro σ H1 ⟨g1,_,⟨x2,rfl⟩,kvs,hkd,bk⟩
 rw[← h6.length,List.take_length] at bk
 exact⟨_,rfl,q _ _ g1 ⟨d,kvs,rfl,hkd,bk⟩⟩
theorem sc_read_from:FnScope ["steps","room","text","written","sign","step"] ["steps","room","text"] (ϖj ϑW):=⟨rfl,rfl,rfl,by decide +kernel,rfl,by decide +kernel,by decide +kernel⟩
theorem ϲl (B:Bi mg) {ϖe ϖi:Addr} (XB:Xb K mg ϖe ϖi)  {f:Addr}{fd:FuncData} (F:Fun K "read_from" "read_from" ϑW f fd):FnOk P w K mg base CX0 1 f fd ["steps","room","text"] (ϕE K):=by
 refine F.ok sc_read_from (fun vs H Q E h=>?_) (fun cdv A outer s H vs Q E hr h=>?_)
 ·obtain⟨vS,H0,s,r0,x,rfl,_⟩:=h;rfl
 obtain⟨vS,H0,s,r0,x,rfl,hS,hSh,hx,qn,qs⟩:=h
 refine⟨_,(ϖd (ϖn (i:=3) sc_read_from.nd rfl (Or.inl rfl) (ϖV ϖf))
   (ϖd (ϑs PassesOwn.never (by rfl) (ϛ3 (pv 2)) (ϖm (i:=4) sc_read_from.nd rfl (Or.inl rfl)) (ϖd (ϑm (ϰm (ϰx (ϑT hr) (ϑl (ϖa (pv 1) (ϖa (pv 4) ϖf))) (pv 0))) (ϖk (ϖE ϰQ)) ϖG)
   (ϖd (ϖn (i:=5) sc_read_from.nd rfl (Or.inl rfl) (ϖq (kIx (K:=K) rIxL ϑj) (ϕM (ϑT hr) (pv 0) (ϑl (ϖa (pv 1) (ϖa (pv 4) ϖf))) (by intro _ _;rfl)) ϖh (by intro _ _;rfl)))
   (ϖd (ϑ6 (kPE (K:=K) (fun k=>tBM k _ _ _ _) (ϰB PySem.F.plainAttrs_list PySem.F.slot_list_append PySem.F.type_list_append ϕI (pv 3) (ϖa (hs:=ϖQ) (ϖq (kIx (K:=K) rIxT ϖl) (pv 5) ϖh (by intro _ _;rfl)) ϖf))))
   (ϖk (ϖn (i:=1) sc_read_from.nd rfl (Or.inl rfl) (ϖq (kIx (K:=K) rIxT ϖl) (pv 5) ϖh (by intro _ _;rfl))))))))
   (ϖk (ϖE (ϑl (ϖa (pv 1) (ϖa (hs:=ϕj) (kPE (K:=K) (fun k=>tBM k _ _ _ _) (ϰB PySem.F.plainAttrs_str PySem.F.slot_str_join PySem.F.type_str_join ϝq ϑ3 (ϖa (pv 3) ϖf))) ϖf))))))),?_⟩
 refine⟨szl (by simp),fun pw hpw=>?_⟩
 have gw:=ϖg hpw (.lst [])
 refine⟨_,rfl,_,rfl,?_⟩
 have hxl:(cl x).length=x.length:=ϖ6 x
 refine ϝz (fun i σ H'=>i≤x.length∧Same H H'∧∃r u zs x4 x5,goM s (r0,"") ((cl x).take i)=some (r,u)∧σ=[some vS,some (.int r),some (.str x),some (.ref pw),x4,x5]∧H' pw=some (.lst (zs.map V.str))∧catS zs=u∧zs.length=i∧u.length≤100*i)
  ⟨Nat.zero_le _,gw,r0,"",[],none,none,rfl,rfl,ϖc,rfl,rfl,Nat.le_refl _⟩ ?_ ?_
 ·rintro i c σ H5 hc ⟨hi,g5,r,u,zs,x7,x8,hgo,rfl,hzw,ez,lz,lu⟩
  have hil:i < x.length:=by rw[← hxl];exact(List.getElem?_eq_some_iff.mp hc).1
  have fail:ϰl s (r,u) c=none→goM s (r0,"") (cl x)=none:=fun z=>by
   have:goM s (r0,"") ((cl x).take (i+1))=none:=by rw[ϝD hc,hgo];exact z
   exact go_cut this
  refine⟨_,rfl,_,rfl,(by show 2≤sizeLine;decide),fun p hp=>?_⟩
  have gp:=ϖg hp (.tup [V.int r,V.str ⟨#[c]⟩])
  obtain⟨d,o,rfl,hget,hno,hyes⟩:=((hS.mono g5).mono gp).get (r:=r) (g:=⟨#[c]⟩) ϖc
  refine⟨_,rfl,d,o,rfl,hget,_,rfl,?_⟩
  cases ho:o with
  |none=>
   refine iteT ?_
   exact qn (fail (by unfold ϰl;rw[hno ho])) _ (g5.trans gp)
  |some u1=>
  refine iteF ?_
  obtain⟨l1,t,l',y,ys,rfl,hl1,hft,hpr⟩:=hyes u1 ho
  have hzp:=gp _ _ hzw
  have g6:=g5.trans gp
  clear hno hyes
  generalize upd H5 p (.tup [V.int r,V.str ⟨#[c]⟩])=H6 at gp hget hl1 hpr hzp g6⊢
  refine⟨_,rfl,_,rfl,_,rfl,(by show 2≤sizeLine;decide),fun p2 hp2=>?_⟩
  have gp2:=ϖg hp2 (.tup [V.int r,V.str ⟨#[c]⟩])
  obtain⟨d2,o2,e2,hget2,hno2,hyes2⟩:=((hS.mono g6).mono gp2).get (r:=r) (g:=⟨#[c]⟩) ϖc
  cases e2
  have ho2:∃u2,o2=some u2:=by
   cases o2 with
   |none=>rw[hno2 rfl] at hft;cases hft
   |some u2=>exact⟨u2,rfl⟩
  obtain⟨u2,ho2⟩:=ho2
  obtain⟨l2,t2,l2',y2,ys2,rfl,hl2,hft2,hpr2⟩:=hyes2 u2 ho2
  rw[hft] at hft2
  cases hft2
  cases hpr2 with
  |cons hy2 _=>
  obtain⟨bt,rfl,hbt⟩:=hy2
  have tm:t∈s.steps:=ϰu hft
  obtain⟨sl1,sl2⟩:=hSh.2.1 t tm
  have hnx:ϰl s (r,u) c=some (t.2.2.2,u++t.2.2.1):=by unfold ϰl;rw[hft]
  have hz2:=gp2 _ _ hzp
  have g7:=g6.trans gp2
  generalize upd H6 p2 (.tup [V.int r,V.str ⟨#[c]⟩])=H7 at gp2 hget2 hl2 hbt hz2 g7⊢
  rw[ho2] at hget2
  refine⟨d,_,rfl,hget2,l2,_,_,.ref bt,rfl,rfl,SqL.of hl2,ϖ9 (j:=0) rfl,?_⟩
  refine⟨_,rfl,.inl ⟨rfl,_,SqL.of hz2⟩,_,rfl,_,_,_,_,rfl,rfl,hbt,rfl,pw,_,_,rfl,rfl,hz2,by rw[List.length_map];exact szl' (by omega),?_⟩
  have gr:=ϛH hz2 (.lst (zs.map V.str++[V.str t.2.2.1]))
  refine⟨_,rfl,_,_,_,_,rfl,rfl,gr.seqT hbt,rfl,?_⟩
  refine⟨hil,ϖC g7 hpw,t.2.2.2,u++t.2.2.1,zs++[t.2.2.1],_,_,by rw[ϝD hc,hgo];exact hnx,rfl,by rw[ϖc,List.map_append];rfl,by rw[ϝ8,ez],by rw[List.length_append,lz];rfl,by rw[ϕz];omega⟩
 rintro σ H5 ⟨_,g5,r,u,zs,x7,x8,hgo,rfl,hzw,ez,lz,lu⟩
 have hgo':goM s (r0,"") (cl x)=some (r,u):=by
  have e:(cl x).take x.cps.toList.length=cl x:=List.take_length ..
  rw[e] at hgo;exact hgo
 have lzx:x.cps.toList.length=x.length:=hxl
 have s2:(zs.map (·.length)).sum+zs.length*("":Str).length≤16777216:=by
  have:=ϛo zs
  rw[ez] at this
  have e0:("":Str).length=0:=rfl
  rw[e0];omega
 refine⟨_,rfl,rfl,_,rfl,_,pw,zs,rfl,rfl,SqL.of hzw,s2,?_⟩
 rw[ϡ0,ez]
 refine⟨(by show 2≤sizeLine;decide),fun p hp=>?_⟩
 exact qs r u hgo' (by omega) p _ (g5.trans (ϖg hp _)) ϖc
theorem sc_places_at:FnScope ["steps","side","found","place","step"] ["steps","side"] (ϖj ϑQ):=⟨rfl,rfl,rfl,by decide +kernel,rfl,by decide +kernel,by decide +kernel⟩
theorem ϲh (B:Bi mg) {ϖe ϖi:Addr} (XB:Xb K mg ϖe ϖi)  {f:Addr}{fd:FuncData} (F:Fun K "places_at" "places_at" ϑQ f fd):FnOk P w K mg base CX0 1 f fd ["steps","side"] (ϰJ K):=by
 refine F.ok sc_places_at (fun vs H Q E h=>?_) (fun cdv A outer s H vs Q E hr h=>?_)
 ·obtain⟨a,n,rfl,_⟩:=h;rfl
 obtain⟨a,n,rfl,hn,h⟩:=h
 refine⟨_,(ϖd (ϖn (i:=2) sc_places_at.nd rfl (Or.inl rfl) (pe_or ϟk ϰa))
   (ϖd (ϑs PassesOwn.never (by rfl) (kPI (K:=K) (fun k=>iEnu k _) (ϛS (by rfl) B.enumerate (ϖa (pv 0) ϖf))) (kPG (K:=K) (fun k=>gTup k 2 _) (ϕJ (n:=2) (by rfl) (ϖu (ϖm (i:=3) sc_places_at.nd rfl (Or.inl rfl)) (ϖu (ϖm (i:=4) sc_places_at.nd rfl (Or.inl rfl)) ϑV)))) (ϖk (ϑ6 (kPE (K:=K) (fun k=>tBM k _ _ _ _) (ϰB PySem.F.plainAttrs_list PySem.F.slot_list_append PySem.F.type_list_append ϕI (kPE (K:=K) (fun k=>tBM k _ _ _ _) (ϰB PySem.F.plainAttrs_dict PySem.F.slot_dict_setdefault PySem.F.type_dict_setdefault (ϰC hr) (pv 2) (ϖa (hs:=ϖQ) (ϖq (kIx (K:=K) rIxT ϖl) (pv 4) (pv 1) (by intro _ _;rfl)) (ϖa (hs:=ϡz) (ϖV ϖf) ϖf)))) (ϖa (pv 3) ϖf))))))
   (ϖk (ϖE (pv 2))))),?_⟩
 rcases h with⟨S,⟨xs,h3,h6⟩,hs,q⟩|⟨N,S,⟨xs,h3,h6⟩,hs,q⟩
 ·have hsx:S.length=xs.length:=h6.length
  refine .inl fun d hd=>?_
  have g0:=ϖg hd (.dK [])
  refine⟨_,rfl,a,rfl,⟨xs,g0.seq h3⟩,?_⟩
  let Iv_1:Nat→L2.St→Hp→Prop:=(fun i σ H'=>Same H H'∧i≤xs.length∧(∃ x y,σ=[some (.ref a),some (.int n),some (.ref d),x,y])∧∃kvs,H' d=some (.dK kvs)∧Bk isQ (keyP n S) H H' d (List.range i) kvs)
  refine ϵU (xs:=xs) Iv_1
   ⟨g0,Nat.zero_le _,⟨_,_,rfl⟩,[],ϖc,Bk.nil⟩ (fun i σ H' _ z=>z.1.seq h3) (fun b_ r_ hb_ hr_=>?_) ?_
  ·rintro i x p0 σ H1 hx ⟨g1,hi,⟨x2,x3,rfl⟩,kvs,hkd,bk⟩ hp0
   obtain⟨t,ht,b,rfl,hb⟩:=ϖr h6 hx
   have hil:i < xs.length:=(List.getElem?_eq_some_iff.mp hx).1
   have gp:=ϖg hp0 (.tup [V.int i,V.ref b])
   have ep:=ϖc (H:=H1) (a:=p0) (o:=.tup [V.int i,V.ref b])
   have hkd:=gp _ _ hkd
   have bk:=bk.mono ϰn gp
   have g1:=g1.trans gp
   generalize upd H1 p0 (.tup [V.int i,V.ref b])=H1 at gp ep hkd bk g1⊢
   have hb1:=(Same.grow g1).seqT hb
   have hkl:kvs.length≤999:=by have:=bk.len;rw[List.length_range] at this;omega
   refine⟨p0,_,rfl,SqT.of ep,rfl,_,_,rfl,_,_,rfl,rfl,?_⟩
   refine⟨_,rfl,.inr (.inr (.inl ⟨rfl,.inl ⟨kvs,hkd⟩⟩)),?_⟩
   refine⟨_,rfl,_,rfl,_,_,_,_,rfl,rfl,hb1,side_at hn t,szl (by simp),fun l hl=>?_⟩
   have gl:=ϖg hl (.lst [])
   have hk2:=gl _ _ hkd
   have bk2:=bk.mono ϰn gl
   have g2:=g1.trans gl
   have el:upd H1 l (.lst []) l=some (.lst []):=ϖc
   have hl0:H l=none:=g1.free hl
   have hln:∀k,valV kvs k≠some (.ref l):=fun k hk=>by
    obtain⟨l',ys,e,_,_,h3',_⟩:=bk.there k _ hk
    injection e with e
    subst e
    rw[h3'] at hl;cases hl
   have hld:l≠d:=(ϖs hkd hl).symm
   generalize upd H1 l (.lst [])=H2 at hk2 bk2 g2 el⊢
   have hkey:keyP n S i=Sum.inl (ϖN n t):=by unfold keyP;rw[ht];rfl
   refine⟨d,V.int (ϖN n t),.ref l,rfl,rfl,.inl ⟨kvs,keyP n S i,hk2,by rw[hkey];rfl,szl' (by omega),fun r hr2=>?_,fun hnn=>?_⟩⟩
   ·obtain⟨l2,ys,rfl,j1,j2,j3,j4,j5⟩:=bk2.there _ _ hr2
    have hyl:ys.length≤999:=by
     rw[← j4.length]
     have:=List.length_filter_le (fun t'=>decide (keyP n S t'=keyP n S i)) (List.range i)
     rw[List.length_range] at this;omega
    refine⟨.inl ⟨rfl,_,SqL.of j3⟩,_,rfl,l2,ys,_,rfl,rfl,j3,szl' (by omega),?_⟩
    refine⟨ϖC g2 j1,hil,⟨_,_,rfl⟩,kvs,by rw[ϖp j2.symm];exact hk2,?_⟩
    rw[List.range_succ]
    exact bk2.put ϰn hr2 j3 rfl
   ·have e3:upd H2 d (.dK (putK kvs (keyP n S i) (.ref l))) l=some (.lst []):=by rw[ϖp hld];exact el
    refine⟨.inl ⟨rfl,_,SqL.of e3⟩,_,rfl,l,[],_,rfl,rfl,e3,szl' (by simp),?_⟩
    refine⟨ϖC (ϖC g2 hd) hl0,hil,⟨_,_,rfl⟩,putK kvs (keyP n S i) (.ref l),by rw[ϖp hld.symm];exact ϖc,?_⟩
    rw[List.range_succ]
    exact bk2.new ϰn hnn hl0 hld hk2 (fun _ z=>nomatch z) (fun _ _ z=>nomatch z) hln el rfl
  rintro σ H1 ⟨g1,_,⟨x2,x3,rfl⟩,kvs,hkd,bk⟩
  rw[← hsx] at bk
  exact⟨_,rfl,q _ _ g1 ⟨d,kvs,rfl,hd,hkd,bk⟩⟩
 ·have hsx:S.length=xs.length:=h6.length
  refine .inr fun d hd=>?_
  have g0:=ϖg hd (.dT [])
  refine⟨_,rfl,a,rfl,⟨xs,g0.seq h3⟩,?_⟩
  let Iv_2:Nat→L2.St→Hp→Prop:=(fun i σ H'=>Same H H'∧i≤xs.length∧(∃ x y,σ=[some (.ref a),some (.int n),some (.ref d),x,y])∧∃kvs,H' d=some (.dT kvs)∧Bk isQ (ϰP N n S) H H' d (List.range i) kvs)
  refine ϵU (xs:=xs) Iv_2
   ⟨g0,Nat.zero_le _,⟨_,_,rfl⟩,[],ϖc,Bk.nil⟩ (fun i σ H' _ z=>z.1.seq h3) (fun b_ r_ hb_ hr_=>?_) ?_
  ·rintro i x p0 σ H1 hx ⟨g1,hi,⟨x2,x3,rfl⟩,kvs,hkd,bk⟩ hp0
   obtain⟨t,ht,b,c0,e0,xx,yy,rfl,hb,hc0,he0⟩:=ϖr h6 hx
   obtain⟨ra,hra,hrt⟩:=ϡ4 hn hc0 he0
   have hil:i < xs.length:=(List.getElem?_eq_some_iff.mp hx).1
   have gp:=ϖg hp0 (.tup [V.int i,V.ref b])
   have ep:=ϖc (H:=H1) (a:=p0) (o:=.tup [V.int i,V.ref b])
   have hkd:=gp _ _ hkd
   have bk:=bk.mono ϰn gp
   have g1:=g1.trans gp
   generalize upd H1 p0 (.tup [V.int i,V.ref b])=H1 at gp ep hkd bk g1⊢
   have hb1:=(Same.grow g1).seqT hb
   have hkl:kvs.length≤19999:=by have:=bk.len;rw[List.length_range] at this;omega
   refine⟨p0,_,rfl,SqT.of ep,rfl,_,_,rfl,_,_,rfl,rfl,?_⟩
   refine⟨_,rfl,.inr (.inr (.inl ⟨rfl,.inr ⟨kvs,hkd⟩⟩)),?_⟩
   refine⟨_,rfl,_,rfl,_,_,_,_,rfl,rfl,hb1,hra,szl (by simp),fun l hl=>?_⟩
   have gl:=ϖg hl (.lst [])
   have hk2:=gl _ _ hkd
   have bk2:=bk.mono ϰn gl
   have g2:=g1.trans gl
   have el:upd H1 l (.lst []) l=some (.lst []):=ϖc
   have hl0:H l=none:=g1.free hl
   have hln:∀k,valV kvs k≠some (.ref l):=fun k hk=>by
    obtain⟨l',ys,e,_,_,h3',_⟩:=bk.there k _ hk
    injection e with e
    subst e
    rw[h3'] at hl;cases hl
   have hld:l≠d:=(ϖs hkd hl).symm
   generalize upd H1 l (.lst [])=H2 at hk2 bk2 g2 el⊢
   have hkey:ϰP N n S i=keyR N (ϖN n t):=by unfold ϰP;rw[ht];rfl
   refine⟨d,V.ref ra,.ref l,rfl,rfl,.inr ⟨kvs,ϰP N n S i,ra,hk2,rfl,by rw[hkey];exact g2 _ _ hrt,szl' (by omega),fun r hr2=>?_,fun hnn=>?_⟩⟩
   ·obtain⟨l2,ys,rfl,j1,j2,j3,j4,j5⟩:=bk2.there _ _ hr2
    have hyl:ys.length≤19999:=by
     rw[← j4.length]
     have:=List.length_filter_le (fun t'=>decide (ϰP N n S t'=ϰP N n S i)) (List.range i)
     rw[List.length_range] at this;omega
    refine⟨.inl ⟨rfl,_,SqL.of j3⟩,_,rfl,l2,ys,_,rfl,rfl,j3,szl' (by omega),?_⟩
    refine⟨ϖC g2 j1,hil,⟨_,_,rfl⟩,kvs,by rw[ϖp j2.symm];exact hk2,?_⟩
    rw[List.range_succ]
    exact bk2.put ϰn hr2 j3 rfl
   ·have e3:upd H2 d (.dT (putK kvs (ϰP N n S i) (.ref l))) l=some (.lst []):=by rw[ϖp hld];exact el
    refine⟨.inl ⟨rfl,_,SqL.of e3⟩,_,rfl,l,[],_,rfl,rfl,e3,szl' (by simp),?_⟩
    refine⟨ϖC (ϖC g2 hd) hl0,hil,⟨_,_,rfl⟩,putK kvs (ϰP N n S i) (.ref l),by rw[ϖp hld.symm];exact ϖc,?_⟩
    rw[List.range_succ]
    exact bk2.new ϰn hnn hl0 hld hk2 (fun _ z=>nomatch z) (fun _ _ z=>nomatch z) hln el rfl
  rintro σ H1 ⟨g1,_,⟨x2,x3,rfl⟩,kvs,hkd,bk⟩
  rw[← hsx] at bk
  exact⟨_,rfl,q _ _ g1 ⟨d,kvs,rfl,hd,hkd,bk⟩⟩
theorem sc_traces_from:FnScope ["marks","steps","near","far","traces","place","mark","places","front","behind","room","other"] ["marks","steps","near","far"] (ϖj ϑr):=⟨rfl,rfl,rfl,by decide +kernel,rfl,by decide +kernel,by decide +kernel⟩
theorem ϵd (B:Bi mg) {ϖe ϖi:Addr} (XB:Xb K mg ϖe ϖi) (ϑX:Cal P w K mg base "places_at" ["steps","side"] 1 (ϰJ K)) {f:Addr}{fd:FuncData} (F:Fun K "traces_from" "traces_from" ϑr f fd):FnOk P w K mg base CX0 2 f fd ["marks","steps","near","far"] (ϰR K):=by
 refine F.ok sc_traces_from (fun vs H Q E h=>?_) (fun cdv A outer s H vs Q E hr h=>?_)
 ·obtain⟨N,am,M,as_,S,n,f,R,rfl,_⟩:=h;rfl
 obtain⟨N,am,M,as_,S,n,f,R,rfl,⟨xm,hm1,hm2⟩,hSt,lm,ls,hn,hf,hR,bm,bs,q⟩:=h
 refine⟨_,(ϖd (ϖn (i:=4) sc_traces_from.nd rfl (Or.inl rfl) ϰa)
   (ϖd (ϑs PassesOwn.never (by rfl) (kPI (K:=K) (fun k=>iEnu k _) (ϛS (by rfl) B.enumerate (ϖa (pv 0) ϖf))) (kPG (K:=K) (fun k=>gTup k 2 _) (ϕJ (n:=2) (by rfl) (ϖu (ϖm (i:=5) sc_traces_from.nd rfl (Or.inl rfl)) (ϖu (ϖm (i:=6) sc_traces_from.nd rfl (Or.inl rfl)) ϑV)))) (ϖk (ϑm (ϰm (ϰx (ϑT hr) (ϖq (kIx (K:=K) rIxT ϖl) (pv 6) ϖh (by intro _ _;rfl)) (pv 4))) (ϖk (ϰW (ϑT hr) (pv 4) (ϖq (kIx (K:=K) rIxT ϖl) (pv 6) ϖh (by intro _ _;rfl)) (ϑl (ϖa (pv 5) (ϖa ϰQ ϖf))) rfl)) ϖG)))
   (ϖd (ϖn (i:=7) sc_traces_from.nd rfl (Or.inl rfl) (ϖM ϑX hr (by decide:1≤1) (by rfl) (ϖa (pv 1) (ϖa (pv 2) ϖf))))
   (ϖd (ϖn (i:=8) sc_traces_from.nd rfl (Or.inl rfl) (ϑy (ϡB (by rfl)) (by rfl) B.list ϱb (ϖa (pv 4) ϖf)))
   (ϖd (ϡP PassesOwn.never (ϖx (kOp (K:=K) rNeD (ϵr hr.units)) (pv 8) (ϖV ϖf) (ϖH _)) (ϖd (ϖn (i:=9) sc_traces_from.nd rfl (Or.inl rfl) (ϖV ϖf))
   (ϖd (ϑs PassesOwn.never (by rfl) (kPI (K:=K) (fun k=>ϑO k _) (ϖR (pv 8))) (ϖm (i:=10) sc_traces_from.nd rfl (Or.inl rfl)) (ϖk (ϑs PassesOwn.never (by rfl) (kPI (K:=K) (fun k=>ϑO k _) (ϖR (kPE (K:=K) (fun k=>tBM k _ _ _ _) (ϰB PySem.F.plainAttrs_dict PySem.F.slot_dict_get PySem.F.type_dict_get (ϝ_ hr) (pv 7) (ϖa (pv 10) (ϖa (hs:=ϡz) (ϖV ϖf) ϖf)))))) (ϖm (i:=5) sc_traces_from.nd rfl (Or.inl rfl)) (ϖd (ϖn (i:=11) sc_traces_from.nd rfl (Or.inl rfl) (ϖq (kIx (K:=K) rIxT ϖl) (ϖq (kIx (K:=K) rIxL ϑj) (pv 1) (pv 5) (by intro _ _;rfl)) (pv 3) (by intro _ _;rfl)))
   (ϖk (ϑm (ϰm (ϰx (ϑT hr) (pv 11) (pv 4))) (ϖd (ϰW (ϑT hr) (pv 4) (pv 11) (ϑl (ϖa (hs:=ϖQ) (ϖq (kIx (K:=K) rIxT ϖl) (ϕM (ϑT hr) (pv 4) (pv 10) (by intro _ _;rfl)) ϖh (by intro _ _;rfl)) (ϖa (pv 5) ϖf))) rfl)
   (ϖk (ϑ6 (kPE (K:=K) (fun k=>tBM k _ _ _ _) (ϰB PySem.F.plainAttrs_list PySem.F.slot_list_append PySem.F.type_list_append ϕI (pv 9) (ϖa (pv 11) ϖf)))))) ϖG))))))
   (ϖk (ϖn (i:=8) sc_traces_from.nd rfl (Or.inl rfl) (pv 9))))))
   (ϖk (ϖE (pv 4)))))))),?_⟩
 have hmx:M.length=xm.length:=hm2.length
 refine fun d hd=>?_
 have g0:=ϖg hd (.dT [])
 refine⟨_,rfl,am,rfl,⟨xm,g0.seq hm1⟩,?_⟩
 let Iv_1:Nat→L2.St→Hp→Prop:=(fun i σ H'=>Same H H'∧i≤xm.length∧(∃ x5 x6,σ=[some (.ref am),some (.ref as_),some (.int n),some (.int f),some (.ref d),x5,x6,none,none,none,none,none])∧∃T,TrDP N K H' d T∧TI M S n f T∧T.length≤i∧(∀ m∈M.take i,m.1∈ϖF T)∧(∀ r∈ϖF T,0≤r∧r < R)∧(∀ e∈T,e.2.2=none))
 refine ϵU (xs:=xm) Iv_1
  ⟨g0,Nat.zero_le _,⟨_,_,rfl⟩,[],⟨[],ϖc,.nil⟩,TI.nil,Nat.le_refl _,by simp,by simp[ϖF],by simp⟩ (fun i σ H' _ z=>z.1.seq hm1) (fun b_ r_ hb_ hr_=>?_) ?_
 ·rintro i x p0 σ H1 hx ⟨g1,hi,⟨x5,x6,rfl⟩,T,⟨kvs,hkd,hp⟩,ti,tl,tm,tb,tz⟩ hp0
  obtain⟨m,hm,b,rb,yy,rfl,hb,hrb⟩:=ϖr hm2 hx
  have hil:i < xm.length:=(List.getElem?_eq_some_iff.mp hx).1
  have gp:=ϖg hp0 (.tup [V.int i,V.ref b])
  have ep:=ϖc (H:=H1) (a:=p0) (o:=.tup [V.int i,V.ref b])
  have hkd:=gp _ _ hkd
  have hp:=ϖb (fun _ _=>EnVP.gt (GT.of gp)) hp
  have g1:=g1.trans gp
  generalize upd H1 p0 (.tup [V.int i,V.ref b])=H1 at gp ep hkd hp g1⊢
  have hb1:=(Same.grow g1).seqT hb
  have hkl:kvs.length=T.length:=hp.length.symm
  refine⟨p0,_,rfl,SqT.of ep,rfl,_,_,rfl,_,_,rfl,rfl,?_⟩
  refine⟨_,rfl,_,_,_,_,rfl,rfl,hb1,ϖ9 (j:=0) rfl,_,rfl,d,_,rfl,DGet.t (k:=keyR N m.1) hkd (g1 _ _ hrb),_,rfl,?_⟩
  cases hv:valV kvs (keyR N m.1) with
  |some v=>
   refine iteF ?_
   have hin:m.1∈ϖF T:=Classical.byContradiction fun z=>by rw[(ϕo hp).mpr z] at hv;cases hv
   refine⟨g1,hil,⟨_,_,rfl⟩,T,⟨kvs,hkd,hp⟩,ti,by omega,fun m' h'=>?_,tb,tz⟩
   rw[ϖA hm] at h'
   rcases List.mem_append.mp h' with h'|h'
   ·exact tm m' h'
   ·rw[List.mem_singleton.mp h'];exact hin
  |none=>
   have hnot:=(ϕo hp).mp hv
   refine iteT ?_
   refine⟨_,rfl,(by show 2≤sizeLine;decide),fun p hp2=>?_⟩
   have g2:=ϖg hp2 (.tup [V.int i,V.non])
   have e2:=ϖc (H:=H1) (a:=p) (o:=.tup [V.int i,V.non])
   have hkd:=g2 _ _ hkd
   have hp:=ϖb (fun _ _=>EnVP.gt (GT.of g2)) hp
   have hb2:=(Same.grow g2).seqT hb1
   have g12:=g1.trans g2
   generalize upd H1 p (.tup [V.int i,V.non])=H2 at g2 e2 hkd hp hb2 g12⊢
   refine⟨_,rfl,_,rfl,_,_,_,_,rfl,rfl,hb2,ϖ9 (j:=0) rfl,d,_,rfl,DPut.t (k:=keyR N m.1) hkd (g12 _ _ hrb) (szl' (by omega)),?_⟩
   refine⟨ϖC g12 hd,hil,⟨_,_,rfl⟩,T++[(m.1,i,none)],TrDP.put (e:=(m.1,i,none)) hkd hp hnot e2,ti.snoc hnot (.inl ⟨rfl,m,hm,rfl⟩),by rw[List.length_append,List.length_singleton];omega,fun m' h'=>?_,fun r hr=>?_,fun e he=>?_⟩
   ·rw[ϑ5]
    rw[ϖA hm] at h'
    rcases List.mem_append.mp h' with h'|h'
    ·exact List.mem_append_left _ (tm m' h')
    ·rw[List.mem_singleton.mp h'];exact List.mem_append_right _ (by simp)
   ·rw[ϑ5] at hr
    rcases List.mem_append.mp hr with hr|hr
    ·exact tb r hr
    ·rw[List.mem_singleton.mp hr];exact bm m (List.mem_of_getElem? hm)
   ·rcases List.mem_append.mp he with he|he
    ·exact tz e he
    ·rw[List.mem_singleton.mp he]
 rintro σ H1 ⟨g1,_,⟨x5,x6,rfl⟩,T0,hT0,ti0,tl0,tm0,tb0,tz0⟩
 rw[← hmx,List.take_length] at tm0
 have tfst:∀m∈M,∃e∈T0,e.1=m.1∧e.2.2=none:=fun m hm=>by
  have h1:=tm0 m hm
  unfold ϖF at h1
  obtain⟨e,he,e1⟩:=List.mem_map.mp h1
  exact⟨e,he,e1,tz0 e he⟩
 have hSt1:StLG N K H1 as_ S:=let ⟨xs,h1,h2⟩:=hSt;⟨xs,g1.seq h1,ϖb (fun _ _=>StG.mono g1) h2⟩
 refine⟨_,rfl,_,rfl,as_,n,rfl,hn,.inr ⟨N,S,hSt1,ls,fun vP Hq gq hP=>?_⟩⟩
 obtain⟨pd,kvp,rfl,hpd0,hpd,bk⟩:=hP
 have hTq:=hT0.mono gq
 obtain⟨kvs0,hkd0,hp0⟩:=id hTq
 refine⟨_,rfl,d,rfl,.inr ⟨kvs0,hkd0,fun bs0 lf pbs hlf=>?_⟩⟩
 have hkf:=ϝf hp0 pbs
 generalize bs0.map V.ref=yf at hkf⊢
 have glf:=ϖg hlf (.lst (yf))
 have elf:=ϖc (H:=Hq) (a:=lf) (o:=.lst (yf))
 have kb0:KB d Hq (upd Hq lf (.lst (yf))):=fun b o _ z=>glf b o z
 have hT1:=hTq.mono glf
 generalize upd Hq lf (.lst (yf))=H2 at glf elf kb0 hT1⊢
 have hqd:Hq d≠none:=by rw[hkd0];exact fun z=>nomatch z
 have gq0:Same H Hq:=g1.trans gq
 have hpdd:pd≠d:=fun z=>by rw[z] at hpd0;obtain⟨k1,k2,_⟩:=hT0;rw[k2] at hpd0;cases hpd0
 obtain⟨xs,hs1,hs2⟩:=hSt
 have hsx:S.length=xs.length:=hs2.length
 obtain⟨Rn,hRn⟩:∃N:Nat,R≤(N:Int)∧N≤999:=⟨R.toNat,by omega,by omega⟩
 have cap:∀T:List En,TI M S n f T→(∀ r∈ϖF T,0≤r∧r < R)→T.length≤Rn:=fun T ti tb=>by
  have:=ϱP Rn (ϖF T) ti.nd fun x hx=>⟨(tb x hx).1,by have:=(tb x hx).2;omega⟩
  unfold ϖF at this
  rw[List.length_map] at this;exact this
 refine⟨fun mm σ H'=>∃(lf:Addr) (fr:List Int) (yf:List V) (T:List En) (x5 x9 x10 x11:Option V),mm=2*(Rn-T.length)+min fr.length 1∧σ=[some (.ref am),some (.ref as_),some (.int n),some (.int f),some (.ref d),x5,x6,some (.ref pd),some (.ref lf),x9,x10,x11] ∧
   KB d Hq H'∧H' lf=some (.lst yf)∧Paired (RmV N Hq) fr yf∧TrDP N K H' d T∧TI M S n f T∧T0 <+: T∧(∀ m∈M,m.1∈ϖF T)∧(∀ r∈ϖF T,0≤r∧r < R)∧(∀ r∈fr,r∈ϖF T)∧(∀ r∈ϖF T,r∈fr∨DoneT S n f T r),
  ⟨_,lf,ϖF T0,yf,T0,_,_,_,_,rfl,rfl,kb0,elf,hkf,hT1,ti0,List.prefix_refl _,tm0,tb0,fun r hr=>hr,fun r hr=>.inl hr⟩,?_⟩
 clear hT1 kb0 elf glf hkf hlf lf H2 hTq yf
 rintro mm σ H2 ⟨lf,fr,yf,T,x5,x9,x10,x11,rfl,rfl,kb,elf,hyf,hT,ti,tp,tm,tb,tf,tc⟩
 refine⟨_,rfl,szl (by simp),fun l0 hl0=>?_⟩
 have gl0:=ϖg hl0 (.lst [])
 have el0:=ϖc (H:=H2) (a:=l0) (o:=.lst [])
 have kb:=kb.then gl0
 have elf:=gl0 _ _ elf
 have hT:=hT.mono gl0
 generalize upd H2 l0 (.lst [])=H3 at gl0 el0 kb elf hT⊢
 refine⟨.lst (fr.map (dRm N)),.lst [],ϖZ (SqL.of elf) (ϵ1 (rmKb kb hkd0 hyf)),ϖZ (SqL.of el0) .nil,by have:=ϲa N fr;simp only[deep];omega,_,rfl,?_⟩
 rw[ϝR]
 refine ϰX (fun hfr=>?_) (fun hfr=>?_)
 rotate_left
 ·subst hfr
  refine⟨_,rfl,q d T H3 (kb.same gq0 hd) hd hT ⟨ti,tm,fun r hr=>?_,tb,fun m hm=>by obtain⟨e,h1,h2⟩:=tfst m hm;exact⟨e,tp.subset h1,h2⟩⟩⟩
  rcases tc r hr with z|z
  ·cases z
  ·exact z
 have hfl:0 < fr.length:=List.length_pos_iff.mpr hfr
 refine⟨_,fun σ' H' z=>z,?_⟩
 refine⟨szl (by simp),fun lb hlb=>?_⟩
 have glb:=ϖg hlb (.lst [])
 have elb:=ϖc (H:=H3) (a:=lb) (o:=.lst [])
 have hlb0:Hq lb=none:=by
  cases z:Hq lb with
  |none=>rfl
  |some o=>
   by_cases y:lb=d
   ·obtain⟨k1,k2,_⟩:=hT;rw[y,k2] at hlb;cases hlb
   ·rw[kb _ _ y z] at hlb;cases hlb
 have hbf:lf≠lb:=ϖs elf hlb
 have hbd:lb≠d:=fun z=>by obtain⟨k1,k2,_⟩:=hT;rw[z,k2] at hlb;cases hlb
 have hfd:lf≠d:=fun z=>by obtain⟨k1,k2,_⟩:=hT;rw[z,k2] at elf;cases elf
 have kb:=kb.then glb
 have elf:=glb _ _ elf
 have hT:=hT.mono glb
 generalize upd H3 lb (.lst [])=H4 at glb elb kb elf hT⊢
 refine⟨_,rfl,lf,rfl,⟨_,SqL.of elf⟩,?_⟩
 let Iv_2:Nat→L2.St→Hp→Prop:=(fun i σ H'=>∃(T':List En) (beh:List Int) (yb:List V) (x5 x10 x11:Option V),σ=[some (.ref am),some (.ref as_),some (.int n),some (.int f),some (.ref d),x5,x6,some (.ref pd),some (.ref lf),some (.ref lb),x10,x11] ∧
   KB d Hq H'∧H' lf=some (.lst yf)∧Paired (RmV N Hq) fr yf∧H' lb=some (.lst yb)∧Paired (RmV N Hq) beh yb∧TrDP N K H' d T'∧TI M S n f T'∧T0 <+: T'∧(∀ m∈M,m.1∈ϖF T')∧(∀ r∈ϖF T',0≤r∧r < R)∧T'.length=T.length+beh.length∧(∀ r∈fr,r∈ϖF T')∧(∀ r∈beh,r∈ϖF T')∧(∀ r∈ϖF T',r∈beh∨r∈fr.drop i∨DoneT S n f T' r))
 refine ϑK (xs:=yf) Iv_2
  ⟨T,[],[],_,_,_,rfl,kb,elf,hyf,elb,.nil,hT,ti,tp,tm,tb,rfl,tf,fun r hr=>(nomatch hr),fun r hr=>.inr (tc r hr)⟩ (fun i σ H' _ z=>by obtain⟨_,_,_,_,_,_,_,_,z,_⟩:=z;exact SqL.of z) (fun b_ r_ hb_ hr_=>?_) ?_
 ·clear kb elf elb hT ti tp tm tb glb gl0 el0 tf tc
  rintro i x σ H5 hx ⟨T1,beh,yb,x5',x10',x11',rfl,kb,elf,_,elb,hyb,hT,ti,tp,tm,tb,tl,tf,tbh,tc⟩
  obtain⟨r,hri,rb,rfl,hrb⟩:=ϖr hyf hx
  have hpd5:=kb _ _ hpdd hpd
  have hrT:=tf r (List.mem_of_getElem? hri)
  refine⟨_,rfl,.inr (.inr (.inl ⟨rfl,.inr ⟨kvp,hpd5⟩⟩)),_,rfl,szl (by simp),fun l1 hl1=>?_⟩
  have gl1:=ϖg hl1 (.lst [])
  have el1:=ϖc (H:=H5) (a:=l1) (o:=.lst [])
  have hl1b:l1≠lb:=(ϖs elb hl1).symm
  have hl1d:l1≠d:=fun z=>by obtain⟨k1,k2,_⟩:=hT;rw[z,k2] at hl1;cases hl1
  have kb:=kb.then gl1
  have elf:=gl1 _ _ elf
  have elb:=gl1 _ _ elb
  have hT:=hT.mono gl1
  have hpd6:=gl1 _ _ hpd5
  generalize upd H5 l1 (.lst [])=H6 at gl1 el1 kb elf elb hT hpd6⊢
  have hd1:H1 d≠none:=by obtain⟨k1,k2,_⟩:=hT0;rw[k2];exact fun z=>nomatch z
  obtain⟨la,hla1,hla2,hla3⟩:=pl_getP (bk_kbP bk hd1 kb) r el1
  refine⟨pd,.ref rb,.ref l1,_,rfl,rfl,DGet.t (k:=keyR N r) hpd6 (kbT kb hkd0 hrb),?_⟩
  rw[hla1]
  have hlad:la≠d:=fun z=>by obtain⟨k1,k2,_⟩:=hT;rw[z,k2] at hla2;cases hla2
  have hlab:la≠lb:=by
   rcases hla3 with rfl|⟨z1,k,z2⟩
   ·exact hl1b
   ·obtain⟨l',ys,e,_,_,h3,_⟩:=bk.there _ _ z2
    injection e with e
    subst e
    exact ϖs h3 hlb0
  refine⟨la,rfl,⟨_,SqL.of hla2⟩,?_⟩
  let Iv_3:Nat→L2.St→Hp→Prop:=(fun j σ H'=>∃(T':List En) (beh:List Int) (yb:List V) (x5 x11:Option V),σ=[some (.ref am),some (.ref as_),some (.int n),some (.int f),some (.ref d),x5,x6,some (.ref pd),some (.ref lf),some (.ref lb),some (.ref rb),x11] ∧
    KB d Hq H'∧H' lf=some (.lst yf)∧Paired (RmV N Hq) fr yf∧H' lb=some (.lst yb)∧Paired (RmV N Hq) beh yb∧H' la=some (.lst ((ϖT n S r).map qV))∧TrDP N K H' d T'∧TI M S n f T'∧T0 <+: T'∧(∀ m∈M,m.1∈ϖF T')∧(∀ r∈ϖF T',0≤r∧r < R)∧T'.length=T.length+beh.length∧(∀ r∈fr,r∈ϖF T')∧(∀ r∈beh,r∈ϖF T')∧(∀ r∈ϖF T',r∈beh∨r∈fr.drop i∨DoneT S n f T' r) ∧
    (∀ q∈(ϖT n S r).take j,∀t,S[q]?=some t→ϖN f t∈ϖF T'))
  refine ϑK (xs:=(ϖT n S r).map qV) Iv_3
   ⟨T1,beh,yb,_,_,rfl,kb,elf,hyf,elb,hyb,hla2,hT,ti,tp,tm,tb,tl,tf,tbh,tc,fun q hq=>by simp at hq⟩ (fun j σ H' _ z=>by obtain⟨_,_,_,_,_,_,_,_,_,_,_,z,_⟩:=z;exact SqL.of z) (fun b_ r_ hb_ hr_=>?_) ?_
  ·clear kb elf elb hT ti tp tm tb tl tf tbh tc hla2 hpd6 el1 gl1
   rintro j y σ H7 hy ⟨T2,beh,yb,x5'',x11'',rfl,kb,elf,_,elb,hyb,hla,hT,ti,tp,tm,tb,tl,tf,tbh,tc,td⟩
   rw[List.getElem?_map] at hy
   cases hqj:(ϖT n S r)[j]? with
   |none=>rw[hqj] at hy;cases hy
   |some pq=>
   rw[hqj] at hy
   injection hy with hy
   subst hy
   obtain⟨t,ht,htn⟩:=mem_placesOf.mp (List.mem_of_getElem? hqj)
   obtain⟨vt,hvt,b,c1,c2,xx,yy,rfl,hb,hc1,hc2⟩:=ϑ4 hs2 ht
   obtain⟨ro,hro,hrt⟩:=ϡ4 hf hc1 hc2
   have hrq:=gq0 _ _ hrt
   have hr7:=kbT kb hkd0 hrq
   have hb7r:=kbT kb hkd0 hrb
   have g7:=kb.same gq0 hd
   have hb7:=(Same.grow g7).seqT hb
   obtain⟨kvs,hkd,hp⟩:=id hT
   have hkl:kvs.length≤999:=by have:=cap T2 ti tb;rw[← hp.length];omega
   have hbl:beh.length≤999:=by have:=cap T2 ti tb;omega
   refine⟨_,rfl,_,rfl,_,_,_,_,rfl,rfl,g7.seq hs1,ϖ9 hvt,_,rfl,_,_,_,_,rfl,rfl,hb7,hro,?_⟩
   refine⟨_,rfl,_,rfl,d,_,rfl,DGet.t (k:=keyR N (ϖN f t)) hkd hr7,_,rfl,?_⟩
   have tdone:∀{T':List En},(∀ x∈ϖF T2,x∈ϖF T')→ϖN f t∈ϖF T'→∀q∈(ϖT n S r).take (j+1),∀t,S[q]?=some t→ϖN f t∈ϖF T':=fun up hin q' hq' t' ht'=>by
    rw[ϖA hqj] at hq'
    rcases List.mem_append.mp hq' with h|h
    ·exact up _ (td q' h t' ht')
    ·rw[List.mem_singleton.mp h,ht] at ht'
     injection ht' with ht'
     rw[← ht'];exact hin
   cases hv:valV kvs (keyR N (ϖN f t)) with
   |some v=>
    refine iteF ?_
    have hin:ϖN f t∈ϖF T2:=Classical.byContradiction fun z=>by rw[(ϕo hp).mpr z] at hv;cases hv
    exact⟨T2,beh,yb,_,_,rfl,kb,elf,hyf,elb,hyb,hla,hT,ti,tp,tm,tb,tl,tf,tbh,tc,tdone (fun _ h=>h) hin⟩
   |none=>
    have hnot:=(ϕo hp).mp hv
    refine iteT ?_
    obtain⟨i0,e0,te,hi0,hk0,hval,hte⟩:=ϱO hp (tf r (List.mem_of_getElem? hri))
    refine⟨_,rfl,_,rfl,d,.ref te,rfl,hval▸DGet.t (k:=keyR N r) hkd hb7r,_,_,_,_,rfl,rfl,hte,rfl,_,rfl,(by show 2≤sizeLine;decide),fun p hp2=>?_⟩
    have g8:=ϖg hp2 (.tup [V.int (e0.2.1:Int),qV pq])
    have e8:=ϖc (H:=H7) (a:=p) (o:=.tup [V.int (e0.2.1:Int),qV pq])
    have kb:=kb.then g8
    have elf:=g8 _ _ elf
    have elb:=g8 _ _ elb
    have hla:=g8 _ _ hla
    have hkd:=g8 _ _ hkd
    have hp:=ϖb (fun _ _=>EnVP.gt (GT.of g8)) hp
    generalize upd H7 p (.tup [V.int (e0.2.1:Int),qV pq])=H8 at g8 e8 kb elf elb hla hkd hp⊢
    refine⟨_,rfl,_,rfl,d,_,rfl,DPut.t (k:=keyR N (ϖN f t)) hkd (g8 _ _ hr7) (szl' (by omega)),?_⟩
    have hT9:=TrDP.put (e:=(ϖN f t,e0.2.1,some pq)) hkd hp hnot e8
    have kb:=kb.here (o:=.dT (putK kvs (keyR N (ϖN f t)) (.ref p)))
    have elf:upd H8 d (.dT (putK kvs (keyR N (ϖN f t)) (.ref p))) lf=_:=(ϖp hfd).trans elf
    have elb:upd H8 d (.dT (putK kvs (keyR N (ϖN f t)) (.ref p))) lb=_:=(ϖp hbd).trans elb
    have hla:upd H8 d (.dT (putK kvs (keyR N (ϖN f t)) (.ref p))) la=_:=(ϖp hlad).trans hla
    generalize upd H8 d (.dT (putK kvs (keyR N (ϖN f t)) (.ref p)))=H9 at hT9 kb elf elb hla⊢
    refine⟨_,rfl,.inl ⟨rfl,_,SqL.of elb⟩,_,rfl,lb,_,_,rfl,rfl,elb,szl' (by rw[← hyb.length];omega),?_⟩
    have up:∀x∈ϖF T2,x∈ϖF (T2++[(ϖN f t,e0.2.1,some pq)]):=fun x hx=>by rw[ϑ5];exact List.mem_append_left _ hx
    have hin:ϖN f t∈ϖF (T2++[(ϖN f t,e0.2.1,some pq)]):=by rw[ϑ5];exact List.mem_append_right _ (by simp)
    refine⟨T2++[(ϖN f t,e0.2.1,some pq)],beh++[ϖN f t],yb++[.ref ro],_,_,rfl,kb.new hlb0,(ϖp hbf).trans elf,hyf,ϖc,ϖo hyb (.cons ⟨ro,rfl,hrq⟩ .nil),(ϖp hlab).trans hla,TrDP.gt (ϱG elb _) (ϖp hbd.symm) hT9,
     ti.snoc hnot (.inr ⟨pq,t,rfl,ht,rfl,i0,e0,(List.getElem?_eq_some_iff.mp hi0).1,hi0,by rw[hk0,htn],rfl⟩),tp.trans (List.prefix_append _ _),fun m hm=>up _ (tm m hm),fun x hx=>?_,by rw[List.length_append,List.length_append,List.length_singleton,List.length_singleton];omega,fun x hx=>up _ (tf x hx),fun x hx=>?_,fun x hx=>?_,tdone up hin⟩
    ·rw[ϑ5] at hx
     rcases List.mem_append.mp hx with hx|hx
     ·exact tb x hx
     ·rw[List.mem_singleton.mp hx];exact bs t (List.mem_of_getElem? ht)
    ·rcases List.mem_append.mp hx with hx|hx
     ·exact up _ (tbh x hx)
     ·rw[List.mem_singleton.mp hx];exact hin
    ·rw[ϑ5] at hx
     rcases List.mem_append.mp hx with hx|hx
     ·rcases tc x hx with z|z|z
      ·exact .inl (List.mem_append_left _ z)
      ·exact .inr (.inl z)
      ·exact .inr (.inr z.snoc)
     ·exact .inl (List.mem_append_right _ hx)
  ·rintro σ H7 ⟨T2,beh,yb,x5'',x11'',rfl,kb,elf,_,elb,hyb,hla,hT,ti,tp,tm,tb,tl,tf,tbh,tc,td⟩
   rw[List.length_map,List.take_length] at td
   refine⟨T2,beh,yb,_,_,_,rfl,kb,elf,hyf,elb,hyb,hT,ti,tp,tm,tb,tl,tf,tbh,fun x hx=>?_⟩
   rcases tc x hx with z|z|z
   ·exact .inl z
   ·have e:fr.drop i=r::fr.drop (i+1):=by
     obtain⟨h1,h2⟩:=List.getElem?_eq_some_iff.mp hri
     rw[List.drop_eq_getElem_cons h1,h2]
    rw[e] at z
    rcases List.mem_cons.mp z with z|z
    ·refine .inr (.inr fun t ht hr=>?_)
     obtain⟨pq,hpq⟩:=List.getElem?_of_mem ht
     exact td pq (mem_placesOf.mpr ⟨t,hpq,by rw[hr,z]⟩) t hpq
    ·exact .inr (.inl z)
   ·exact .inr (.inr z)
 ·rintro σ H5 ⟨T1,beh,yb,x5',x10',x11',rfl,kb,elf,_,elb,hyb,hT,ti,tp,tm,tb,tl,tf,tbh,tc⟩
  rw[← hyf.length,List.drop_length] at tc
  have hc:=cap T1 ti tb
  refine⟨_,rfl,_,?_,lb,beh,yb,T1,_,_,_,_,rfl,rfl,kb,elb,hyb,hT,ti,tp,tm,tb,tbh,fun x hx=>?_⟩
  ·omega
  ·rcases tc x hx with z|z|z
   ·exact .inl z
   ·cases z
   ·exact .inr z
theorem ϕW:FnScope ["scribe"] ["scribe"] (ϖj ϖP):=⟨rfl,rfl,rfl,by decide +kernel,rfl,by decide +kernel,by decide +kernel⟩
theorem ϕ7 (B:Bi mg) {ϖe ϖi:Addr} (XB:Xb K mg ϖe ϖi) (ϑp:Cal P w K mg base "traces_from" ["marks","steps","near","far"] 2 (ϰR K)) {f:Addr}{fd:FuncData} (F:Fun K "traces_from_begins" "traces_from_begins" ϖP f fd):FnOk P w K mg base CX0 3 f fd ["scribe"] (ϝP K):=by
 refine F.ok ϕW (fun vs H Q E h=>?_) (fun cdv A outer s H vs Q E hr h=>?_)
 ·obtain⟨N,v,s,pb,ps,pe,rfl,_⟩:=h;rfl
 obtain⟨N,v,s,pb,ps,pe,rfl,hV,ok,q⟩:=h
 refine⟨_,(ϖk (ϖE (ϖM ϑp hr (by decide:2≤2) (by rfl) (ϖa (hs:=ϖQ) (ϖq (kIx (K:=K) rIxT ϖl) (pv 0) (ϖw (by rfl) B.BEGINS) (by intro _ _;rfl)) (ϖa (hs:=ϖQ) (ϖq (kIx (K:=K) rIxT ϖl) (pv 0) (ϖw (by rfl) B.STEPS) (by intro _ _;rfl)) (ϖa (ϖw (by rfl) B.OUT_OF) (ϖa (ϖw (by rfl) B.INTO) ϖf))))))),?_⟩
 obtain⟨a,zz,xb,xs,xe,rfl,h1,h2,h3,h4,h5,h6,h7⟩:=hV
 exact⟨_,rfl,_,_,_,_,rfl,rfl,h1,rfl,_,rfl,_,_,_,_,rfl,rfl,h1,rfl,N,pb,s.begins,ps,s.steps,0,3,s.rooms,rfl,⟨xb,h2,h5⟩,⟨xs,h3,h6⟩,ok.lb,ok.ls,.inl rfl,.inr rfl,ok.lr,ok.mb,ok.side (.inr rfl),q⟩
theorem ϰ0:FnScope ["scribe"] ["scribe"] (ϖj ϖ4):=⟨rfl,rfl,rfl,by decide +kernel,rfl,by decide +kernel,by decide +kernel⟩
theorem ϰ7 (B:Bi mg) {ϖe ϖi:Addr} (XB:Xb K mg ϖe ϖi) (ϑp:Cal P w K mg base "traces_from" ["marks","steps","near","far"] 2 (ϰR K)) {f:Addr}{fd:FuncData} (F:Fun K "traces_to_ends" "traces_to_ends" ϖ4 f fd):FnOk P w K mg base CX0 3 f fd ["scribe"] (ϝp K):=by
 refine F.ok ϰ0 (fun vs H Q E h=>?_) (fun cdv A outer s H vs Q E hr h=>?_)
 ·obtain⟨N,v,s,pb,ps,pe,rfl,_⟩:=h;rfl
 obtain⟨N,v,s,pb,ps,pe,rfl,hV,ok,q⟩:=h
 refine⟨_,(ϖk (ϖE (ϖM ϑp hr (by decide:2≤2) (by rfl) (ϖa (hs:=ϖQ) (ϖq (kIx (K:=K) rIxT ϖl) (pv 0) (ϖw (by rfl) B.ENDS) (by intro _ _;rfl)) (ϖa (hs:=ϖQ) (ϖq (kIx (K:=K) rIxT ϖl) (pv 0) (ϖw (by rfl) B.STEPS) (by intro _ _;rfl)) (ϖa (ϖw (by rfl) B.INTO) (ϖa (ϖw (by rfl) B.OUT_OF) ϖf))))))),?_⟩
 obtain⟨a,zz,xb,xs,xe,rfl,h1,h2,h3,h4,h5,h6,h7⟩:=hV
 exact⟨_,rfl,_,_,_,_,rfl,rfl,h1,rfl,_,rfl,_,_,_,_,rfl,rfl,h1,rfl,N,pe,s.ends,ps,s.steps,3,0,s.rooms,rfl,⟨xe,h4,h7⟩,⟨xs,h3,h6⟩,ok.le,ok.ls,.inr rfl,.inl rfl,ok.lr,ok.me,ok.side (.inl rfl),q⟩
theorem sc_useful_rooms:FnScope ["scribe","leading_on"] ["scribe"] (ϖj ϑg):=⟨rfl,rfl,rfl,by decide +kernel,rfl,by decide +kernel,by decide +kernel⟩
theorem ϱ3 (B:Bi mg) {ϖe ϖi:Addr} (XB:Xb K mg ϖe ϖi) (ϑ9:Cal P w K mg base "traces_to_ends" ["scribe"] 3 (ϝp K)) (ϑu:Cal P w K mg base "traces_from_begins" ["scribe"] 3 (ϝP K)) {f:Addr}{fd:FuncData} (F:Fun K "useful_rooms" "useful_rooms" ϑg f fd):FnOk P w K mg base CX0 4 f fd ["scribe"] (ϱM K):=by
 refine F.ok sc_useful_rooms (fun vs H Q E h=>?_) (fun cdv A outer s H vs Q E hr h=>?_)
 ·obtain⟨N,v,s,pb,ps,pe,rfl,_⟩:=h;rfl
 obtain⟨N,v,s,pb,ps,pe,rfl,hN,hV,ok,r63,q⟩:=h
 refine⟨_,(ϖd (ϖn (i:=1) sc_useful_rooms.nd rfl (Or.inr rfl) (ϖM ϑ9 hr (by decide:3≤3) (by rfl) (ϖa (pv 0) ϖf)))
   (ϖk (ϖE (ϖy (ϰ2 (K:=K) ϝZ ϵf) (by rfl) B.sorted ϝT (ϖa (ϑR rfl (ϑx (N':=["room","leading_on"]) (js:=[none,some 1]) rfl (by decide +kernel) rfl (by decide +kernel) rfl rfl) (ϟe (ϖM ϑu hr (by decide:3≤3) (by rfl) (ϖa (pv 0) ϖf))) (fun _ _ _ _ _=>(ϖm (i:=0) (show List.Nodup (["room","leading_on"]:List Str) by decide +kernel) rfl (Or.inl rfl))) (fun _ _ _ _ _=>(ϱX (ϰm (ϵw (ϑT hr) (pv 0) (pv 1))))) (fun _ _ _ _ _=>(pv 0))) ϖf))))),?_⟩
 refine⟨_,rfl,N,v,s,pb,ps,pe,rfl,hV.g,ok,fun d2 T2 H1 g1 hd2 hT2 ok2=>?_⟩
 refine⟨_,rfl,N,v,s,pb,ps,pe,rfl,(hV.mono g1).g,ok,fun d1 T1 H2 g2 hd1 hT1 ok1=>?_⟩
 have hT2':=hT2.mono g2
 obtain⟨kvs1,hk1,hp1⟩:=hT1
 obtain⟨kvs2,hk2,hp2⟩:=hT2'
 have hd12:d2≠d1:=fun z=>by obtain⟨k,hk,_⟩:=hT2;rw[z,hd1] at hk;cases hk
 refine⟨d1,kvs1,rfl,hk1,fun o=>?_⟩
 have hl1:T1.length=kvs1.length:=hp1.length
 have hc1:kvs1.length≤63:=by
  have:=ϱP s.rooms.toNat (ϖF T1) ok1.ti.nd fun x hx=>by have:=ok1.bnd x hx;omega
  unfold ϖF at this
  rw[List.length_map] at this
  omega
 have e1:∀{b:Addr}{u:HO},b≠d1→H2 b=some u→upd H2 d1 (.frz o (.dT kvs1)) b=some u:=fun hb z=>(ϖp hb).trans z
 have gH:Same H (upd H2 d1 (.frz o (.dT kvs1))):=ϖC (g1.trans g2) (g1.free hd1)
 have hfz:upd H2 d1 (.frz o (.dT kvs1)) d1=some (.frz o (.dT kvs1)):=ϖc
 have hk2':=e1 hd12 hk2
 generalize upd H2 d1 (.frz o (.dT kvs1))=H3 at gH hfz hk2'⊢
 refine ϟv (kvs:=kvs1) (fun i ys τ H'=>H3=H'∧(∃ x,τ=[x,some (.ref d2)])∧i≤kvs1.length∧Paired (RmV N H3) (((ϖF T1).take i).filter fun r=>decide (r∈ϖF T2)) ys) ⟨rfl,⟨_,rfl⟩,Nat.zero_le _,.nil⟩ (fun i ys τ H' z=>z.1▸hfz) ?_ ?_
 ·rintro i k y b ys τ _ hkv ⟨rfl,⟨x,rfl⟩,hi,hP⟩ hb
  obtain⟨e,he,hE,_⟩:=ϖr hp1 hkv
  have hE:k=keyR N e.1:=hE
  subst hE
  have hki:(ϖF T1)[i]?=some e.1:=by unfold ϖF;rw[List.getElem?_map,he];rfl
  have hil:i < kvs1.length:=(List.getElem?_eq_some_iff.mp hkv).1
  have hyl:ys.length≤999:=by
   rw[← hP.length]
   have:=List.length_filter_le (fun r=>decide (r∈ϖF T2)) ((ϖF T1).take i)
   rw[List.length_take] at this
   omega
  refine⟨_,rfl,_,rfl,d2,_,rfl,DGet.t (k:=keyR N e.1) hk2' hb,_,rfl,?_⟩
  by_cases c:e.1∈ϖF T2
  ·obtain⟨i0,e0,t0,_,_,hv,_⟩:=ϱO hp2 c
   rw[hv]
   refine iteT ⟨_,rfl,szl' (by omega),rfl,⟨_,rfl⟩,hil,?_⟩
   rw[ϖA hki,List.filter_append,List.filter_cons_of_pos (by simpa using c)]
   exact ϖo hP (.cons ⟨b,rfl,hb⟩ .nil)
  ·rw[(ϕo hp2).mpr c]
   refine iteF ⟨rfl,⟨_,rfl⟩,hil,?_⟩
   rw[ϖA hki,List.filter_append,List.filter_cons_of_neg (by simpa using c),List.filter_nil,List.append_nil]
   exact hP
 rintro ys τ _ ⟨rfl,_,_,hP⟩ p hp
 have hkl:(ϖF T1).length=kvs1.length:=by unfold ϖF;rw[List.length_map];exact hl1
 rw[← hkl,List.take_length] at hP
 have gp:=ϖg hp (.lst ys)
 have hP':=ϖb (fun _ _=>RmV.mono gp) hP
 refine⟨p,_,ys,rfl,SqL.of ϖc,(by rw[← hP.length];exact Nat.lt_of_le_of_lt (List.length_filter_le _ _) (by omega)),prs_of hP',fun l ps' ys' h1 h2 h3 hl=>?_⟩
 have h3':=ϛM ok hN ok1 ok2 h1 h2 h3
 exact q l _ ys' ((gH.trans gp).trans (ϖg hl _)) ((gH.trans gp).free hl) ϖc (ϖb (fun _ _=>RmV.mono (ϖg hl _)) h3')
theorem ϵW:FnScope ["marks","numbers"] ["marks","numbers"] (ϖj ϑI):=⟨rfl,rfl,rfl,by decide +kernel,rfl,by decide +kernel,by decide +kernel⟩
theorem ϵO (B:Bi mg) {ϖe ϖi:Addr} (XB:Xb K mg ϖe ϖi)  {f:Addr}{fd:FuncData} (F:Fun K "marks_kept" "marks_kept" ϑI f fd):FnOk P w K mg base CX0 1 f fd ["marks","numbers"] (ϵT K):=by
 refine F.ok ϵW (fun vs H Q E h=>?_) (fun cdv A outer s H vs Q E hr h=>?_)
 ·obtain⟨N,am,M,d,us,rfl,_⟩:=h;rfl
 obtain⟨N,am,M,d,us,rfl,⟨xm,hm1,hm2⟩,lm,hd,q⟩:=h
 refine⟨_,(ϖk (ϖE (ϑR rfl (ϑx (N':=["room","word","numbers"]) (js:=[none,none,some 1]) rfl (by decide +kernel) rfl (by decide +kernel) rfl rfl) (kPI (K:=K) (fun k=>ϑO k _) (ϖR (pv 0))) (fun _ _ _ _ _=>(kPG (K:=K) (fun k=>gTup k 2 _) (ϕJ (n:=2) (by rfl) (ϖu (ϖm (i:=0) (show List.Nodup (["room","word","numbers"]:List Str) by decide +kernel) rfl (Or.inl rfl)) (ϖu (ϖm (i:=1) (show List.Nodup (["room","word","numbers"]:List Str) by decide +kernel) rfl (Or.inl rfl)) ϑV))))) (fun _ _ _ _ _=>(ϱX (ϰm (ϵw (ϑT hr) (pv 0) (pv 2))))) (fun _ _ _ _ _=>(ϑl (ϖa (hs:=ϖQ) (ϕM (ϑT hr) (pv 2) (pv 0) (by intro _ _;rfl)) (ϖa (pv 1) ϖf))))))),?_⟩
 have hmx:M.length=xm.length:=hm2.length
 refine⟨_,rfl,am,rfl,⟨xm,hm1⟩,?_⟩
 refine ϖU (xs:=xm) (fun i ys τ H'=>Same H H'∧(∃ x y,τ=[x,y,some (.ref d)])∧i≤xm.length∧Paired (MkV K H') (ϕr us (M.take i)) ys) ⟨Same.refl _,⟨_,_,rfl⟩,Nat.zero_le _,.nil⟩ (fun i ys τ H' z=>z.1.seq hm1) ?_ ?_
 ·rintro i x ys τ H1 hx ⟨g1,⟨x0,y0,rfl⟩,hi,hP⟩
  obtain⟨m,hm,b,rb,rfl,hb,hrb⟩:=ϖr hm2 hx
  have hil:i < xm.length:=(List.getElem?_eq_some_iff.mp hx).1
  have hb1:=(Same.grow g1).seqT hb
  have hd1:=g1 _ _ hd
  have hyl:ys.length≤999:=by rw[← hP.length];have:=ϰL us (M.take i);rw[List.length_take] at this;omega
  refine⟨b,_,rfl,hb1,rfl,_,_,rfl,_,_,rfl,rfl,?_⟩
  refine⟨_,rfl,_,rfl,d,_,rfl,DGet.t (k:=keyR N m.1) hd1 (g1 _ _ hrb),_,rfl,?_⟩
  have hv:=ϰM N us 0 m.1
  cases hpl:ϖI us m.1 with
  |none=>
   rw[hpl] at hv
   rw[hv]
   refine iteF ⟨g1,⟨_,_,rfl⟩,hil,?_⟩
   unfold ϕr
   rw[ϖA hm,List.filterMap_append,List.filterMap_cons,hpl]
   simpa [ϕr] using hP
  |some j=>
   rw[hpl] at hv
   have hv:valV (ϕ0 N us 0) (keyR N m.1)=some (V.int (j:Int)):=by rw[hv];simp
   rw[hv]
   refine iteT ⟨_,rfl,_,rfl,d,_,rfl,hv▸DGet.t (k:=keyR N m.1) hd1 (g1 _ _ hrb),_,rfl,(by show 2≤sizeLine;decide),fun p hp=>⟨szl' (by omega),g1.trans (ϖg hp _),⟨_,_,rfl⟩,hil,?_⟩⟩
   unfold ϕr
   rw[ϖA hm,List.filterMap_append,List.filterMap_cons,hpl]
   exact ϖo (ϖb (fun _ _=>MkV.mono (ϕb hp _)) hP) (.cons ⟨p,rfl,SqT.of ϖc⟩ .nil)
 rintro ys τ H1 ⟨g1,_,_,hP⟩ p hp
 rw[← hmx,List.take_length] at hP
 exact q p _ (g1.trans (ϖg hp _)) (g1.free hp) ⟨ys,ϖc,ϖb (fun _ _=>MkV.mono (ϕb hp _)) hP⟩
theorem sc_steps_kept:FnScope ["steps","numbers","kept"] ["steps","numbers"] (ϖj ϑE):=⟨rfl,rfl,rfl,by decide +kernel,rfl,by decide +kernel,by decide +kernel⟩
theorem ϵK (B:Bi mg) {ϖe ϖi:Addr} (XB:Xb K mg ϖe ϖi)  {f:Addr}{fd:FuncData} (F:Fun K "steps_kept" "steps_kept" ϑE f fd):FnOk P w K mg base CX0 1 f fd ["steps","numbers"] (ϵM K):=by
 refine F.ok sc_steps_kept (fun vs H Q E h=>?_) (fun cdv A outer s H vs Q E hr h=>?_)
 ·obtain⟨N,as_,S,d,us,rfl,_⟩:=h;rfl
 obtain⟨N,as_,S,d,us,rfl,⟨xs,hs1,hs2⟩,ls,hd,q⟩:=h
 refine⟨_,(ϖd (ϑF (i:=2) sc_steps_kept.nd rfl (Or.inl rfl) (by rfl) (by rfl) (ϑx (N':=["step","numbers"]) (js:=[none,some 1]) rfl (by decide +kernel) rfl (by decide +kernel) rfl rfl) (kPI (K:=K) (fun k=>ϑO k _) (ϖR (pv 0))) (fun _ _ _ _ _=>(ϖm (i:=0) (show List.Nodup (["step","numbers"]:List Str) by decide +kernel) rfl (Or.inl rfl))) (fun _ _ _ _ _=>(ϱX (PW.pt (ϱ6 (ϰm (ϵw (ϑT hr) (ϖq (kIx (K:=K) rIxT ϖl) (pv 0) (ϖw (by rfl) B.OUT_OF) (by intro _ _;rfl)) (pv 1))) (ϰp (ϰm (ϵw (ϑT hr) (ϖq (kIx (K:=K) rIxT ϖl) (pv 0) (ϖw (by rfl) B.INTO) (by intro _ _;rfl)) (pv 1)))))))) (fun _ _ _ _ _=>(pv 0)))
   (ϖk (ϖE (ϑR rfl (ϑx (N':=["start","sign","word","goal","numbers"]) (js:=[none,none,none,none,some 1]) rfl (by decide +kernel) rfl (by decide +kernel) rfl rfl) (kPI (K:=K) (fun k=>ϑO k _) (ϖR (pv 2))) (fun _ _ _ _ _=>(kPG (K:=K) (fun k=>gTup k 4 _) (ϕJ (n:=4) (by rfl) (ϖu (ϖm (i:=0) (show List.Nodup (["start","sign","word","goal","numbers"]:List Str) by decide +kernel) rfl (Or.inl rfl)) (ϖu (ϖm (i:=1) (show List.Nodup (["start","sign","word","goal","numbers"]:List Str) by decide +kernel) rfl (Or.inl rfl)) (ϖu (ϖm (i:=2) (show List.Nodup (["start","sign","word","goal","numbers"]:List Str) by decide +kernel) rfl (Or.inl rfl)) (ϖu (ϖm (i:=3) (show List.Nodup (["start","sign","word","goal","numbers"]:List Str) by decide +kernel) rfl (Or.inl rfl)) ϑV))))))) (fun _ _ _ _ _=>ϕs) (fun _ _ _ _ _=>(ϑl (ϖa (hs:=ϖQ) (ϕM (ϑT hr) (pv 4) (pv 0) (by intro _ _;rfl)) (ϖa (pv 1) (ϖa (pv 2) (ϖa (hs:=ϖQ) (ϕM (ϑT hr) (pv 4) (pv 3) (by intro _ _;rfl)) ϖf)))))))))),?_⟩
 have hsx:S.length=xs.length:=hs2.length
 refine⟨_,rfl,as_,rfl,⟨xs,hs1⟩,?_⟩
 refine ϖU (xs:=xs) (fun i ys τ H'=>H=H'∧(∃ x,τ=[x,some (.ref d)])∧i≤xs.length∧Paired (StP N K H) ((S.take i).filter (inUs us)) ys) ⟨rfl,⟨_,rfl⟩,Nat.zero_le _,.nil⟩ (fun i ys τ H' z=>z.1▸hs1) ?_ ?_
 ·rintro i x ys τ _ hx ⟨rfl,⟨x0,rfl⟩,hi,hP⟩
  obtain⟨t,ht,b,c1,c2,rfl,hb,hc1,hc2⟩:=ϖr hs2 hx
  have hil:i < xs.length:=(List.getElem?_eq_some_iff.mp hx).1
  have hyl:ys.length≤19999:=by
   rw[← hP.length]
   have:=List.length_filter_le (inUs us) (S.take i)
   rw[List.length_take] at this;omega
  have no:inUs us t=false→Paired (StP N K H) ((S.take (i+1)).filter (inUs us)) ys:=fun z=>by
   rw[ϖA ht,List.filter_append,List.filter_cons_of_neg (by rw[z];exact Bool.false_ne_true),List.filter_nil,List.append_nil]
   exact hP
  refine⟨_,rfl,_,_,_,_,rfl,rfl,hb,rfl,_,rfl,d,_,rfl,DGet.t (k:=keyR N t.1) hd hc1,_,rfl,?_⟩
  cases h1:ϖI us t.1 with
  |none=>
   rw[ϱe h1]
   exact iteF ⟨rfl,⟨_,rfl⟩,hil,no (by unfold inUs;rw[h1];rfl)⟩
  |some j1=>
  rw[ϰe h1]
  refine iteT ?_
  refine⟨_,rfl,_,_,_,_,rfl,rfl,hb,rfl,_,rfl,d,_,rfl,DGet.t (k:=keyR N t.2.2.2) hd hc2,_,rfl,?_⟩
  cases h2:ϖI us t.2.2.2 with
  |none=>
   rw[ϱe h2]
   exact iteF ⟨rfl,⟨_,rfl⟩,hil,no (by unfold inUs;rw[h1,h2];rfl)⟩
  |some j2=>
  rw[ϰe h2]
  refine iteT ⟨_,rfl,szl' (by omega),rfl,⟨_,rfl⟩,hil,?_⟩
  rw[ϖA ht,List.filter_append,List.filter_cons_of_pos (by unfold inUs;rw[h1,h2];rfl),List.filter_nil]
  exact ϖo hP (.cons ⟨b,c1,c2,rfl,hb,hc1,hc2⟩ .nil)
 rintro zs τ _ ⟨rfl,_,_,hP⟩ l0 hl0
 rw[← hsx,List.take_length] at hP
 have g0:=ϖg hl0 (.lst zs)
 have e0:=ϖc (H:=H) (a:=l0) (o:=.lst zs)
 have hd0:=g0 _ _ hd
 have hP:=ϖb (fun _ _=>StP.mono g0) hP
 generalize upd H l0 (.lst zs)=H0 at g0 e0 hd0 hP⊢
 have hzl:(S.filter (inUs us)).length=zs.length:=hP.length
 have hz9:zs.length≤19999:=by rw[← hzl];have:=List.length_filter_le (inUs us) S;omega
 refine⟨_,rfl,l0,rfl,⟨zs,SqL.of e0⟩,?_⟩
 refine ϖU (xs:=zs) (fun i ys τ H'=>Same H0 H'∧(∃ x1 x2 x3 x4,τ=[x1,x2,x3,x4,some (.ref d)])∧i≤zs.length∧ys.length=i∧Paired (StV K H') (((S.filter (inUs us)).take i).map (ϲ_ us)) ys) ⟨Same.refl _,⟨_,_,_,_,rfl⟩,Nat.zero_le _,rfl,.nil⟩ (fun i ys τ H' z=>SqL.of (z.1 _ _ e0)) ?_ ?_
 ·rintro i x ys τ H1 hx ⟨g1,⟨x1,x2,x3,x4,rfl⟩,hi,hyl,hP1⟩
  obtain⟨t,ht,b,c1,c2,rfl,hb,hc1,hc2⟩:=ϖr hP hx
  have hil:i < zs.length:=(List.getElem?_eq_some_iff.mp hx).1
  have hb1:=(Same.grow g1).seqT hb
  have hd1:=g1 _ _ hd0
  have htu:inUs us t=true:=(List.mem_filter.mp (List.mem_of_getElem? ht)).2
  unfold inUs at htu
  rw[Bool.and_eq_true] at htu
  obtain⟨j1,h1⟩:=Option.isSome_iff_exists.mp htu.1
  obtain⟨j2,h2⟩:=Option.isSome_iff_exists.mp htu.2
  refine⟨b,_,rfl,hb1,rfl,_,_,rfl,_,_,rfl,_,_,rfl,_,_,rfl,rfl,?_⟩
  refine⟨_,rfl,_,rfl,d,_,rfl,ϰe h1▸DGet.t (k:=keyR N t.1) hd1 (g1 _ _ hc1),_,rfl,_,rfl,_,rfl,_,rfl,d,_,rfl,ϰe h2▸DGet.t (k:=keyR N t.2.2.2) hd1 (g1 _ _ hc2),(by show 4≤sizeLine;decide),fun p hp=>⟨szl' (by omega),g1.trans (ϖg hp _),⟨_,_,_,_,rfl⟩,hil,by rw[List.length_append,hyl];rfl,?_⟩⟩
  rw[ϖA ht,List.map_append]
  refine ϖo (ϖb (fun _ _=>StV.mono (ϕb hp _)) hP1) (.cons ⟨p,rfl,?_⟩ .nil)
  unfold ϲ_
  rw[h1,h2]
  exact SqT.of ϖc
 rintro ys τ H1 ⟨g1,_,_,_,hP1⟩ p hp
 rw[← hzl,List.take_length] at hP1
 exact q p _ ((g0.trans g1).trans (ϖg hp _)) ((g0.trans g1).free hp) ⟨ys,ϖc,ϖb (fun _ _=>StV.mono (ϕb hp _)) hP1⟩
theorem sc_trimmed_of:FnScope ["scribe","numbers","room","begins","steps","ends"] ["scribe"] (ϖj ϑG):=⟨rfl,rfl,rfl,by decide +kernel,rfl,by decide +kernel,by decide +kernel⟩
theorem ϵZ (B:Bi mg) {ϖe ϖi:Addr} (XB:Xb K mg ϖe ϖi) (ϕy:Cal P w K mg base "useful_rooms" ["scribe"] 4 (ϱM K)) (ϕw:Cal P w K mg base "marks_kept" ["marks","numbers"] 1 (ϵT K)) (ϕ5:Cal P w K mg base "steps_kept" ["steps","numbers"] 1 (ϵM K)) {f:Addr}{fd:FuncData} (F:Fun K "trimmed_of" "trimmed_of" ϑG f fd):FnOk P w K mg base CX0 5 f fd ["scribe"] (ϡE K):=by
 refine F.ok sc_trimmed_of (fun vs H Q E h=>?_) (fun cdv A outer s H vs Q E hr h=>?_)
 ·obtain⟨N,v,s,pb,ps,pe,rfl,_⟩:=h;rfl
 obtain⟨N,v,s,pb,ps,pe,rfl,hN,hV,ok,r63,q⟩:=h
 refine⟨_,(ϖd (ϖn (i:=1) sc_trimmed_of.nd rfl (Or.inl rfl) ϰa)
   (ϖd (ϑs PassesOwn.never (by rfl) (kPI (K:=K) (fun k=>ϑO k _) (ϖR (ϖM ϕy hr (by decide:4≤4) (by rfl) (ϖa (pv 0) ϖf)))) (ϖm (i:=2) sc_trimmed_of.nd rfl (Or.inl rfl)) (ϖk (ϰW (ϑT hr) (pv 1) (pv 2) (ϖy ϵB (by rfl) B.len ϑk (ϖa (pv 1) ϖf)) rfl)))
   (ϖd (ϖn (i:=3) sc_trimmed_of.nd rfl (Or.inl rfl) (ϖM ϕw hr (by decide:1≤4) (by rfl) (ϖa (hs:=ϖQ) (ϖq (kIx (K:=K) rIxT ϖl) (pv 0) (ϖw (by rfl) B.BEGINS) (by intro _ _;rfl)) (ϖa (pv 1) ϖf))))
   (ϖd (ϖn (i:=4) sc_trimmed_of.nd rfl (Or.inl rfl) (ϖM ϕ5 hr (by decide:1≤4) (by rfl) (ϖa (hs:=ϖQ) (ϖq (kIx (K:=K) rIxT ϖl) (pv 0) (ϖw (by rfl) B.STEPS) (by intro _ _;rfl)) (ϖa (pv 1) ϖf))))
   (ϖd (ϖn (i:=5) sc_trimmed_of.nd rfl (Or.inl rfl) (ϖM ϕw hr (by decide:1≤4) (by rfl) (ϖa (hs:=ϖQ) (ϖq (kIx (K:=K) rIxT ϖl) (pv 0) (ϖw (by rfl) B.ENDS) (by intro _ _;rfl)) (ϖa (pv 1) ϖf))))
   (ϖk (ϖE (ϑl (ϖa (hs:=ϖQ) (ϖq (kIx (K:=K) rIxT ϖl) (pv 0) (ϖw (by rfl) B.SIGNS) (by intro _ _;rfl)) (ϖa (hs:=ϕj) (ϖy ϵB (by rfl) B.len ϑk (ϖa (pv 1) ϖf)) (ϖa (pv 3) (ϖa (pv 4) (ϖa (pv 5) ϖf))))))))))))),?_⟩
 have hV0:=hV
 obtain⟨a,xb,xs,xe,rfl,h1,h2,h3,h4,h5,h6,h7⟩:=hV
 have hul:=ϲL ok
 have hnd:(useL s).Nodup:=(ϱz s).imp fun h=>by omega
 refine fun d hd=>?_
 have g0:=ϖg hd (.dT [])
 have e0:=ϖc (H:=H) (a:=d) (o:=.dT [])
 generalize upd H d (.dT [])=H0 at g0 e0⊢
 refine⟨_,rfl,N,_,s,pb,ps,pe,rfl,hN,hV0.mono g0,ok,r63,fun lu H1 yu g1 hlu elu hyu=>?_⟩
 have ed1:=g1 _ _ e0
 have hld:lu≠d:=fun z=>by rw[z,ed1] at elu;cases elu
 refine⟨lu,rfl,⟨_,SqL.of elu⟩,?_⟩
 let Iv_1:Nat→L2.St→Hp→Prop:=(fun i σ H'=>Same H H'∧KB d H1 H'∧(∃ x,σ=[some (.ref a),some (.ref d),x,none,none,none])∧i≤(useL s).length∧H' lu=some (.lst yu)∧H' d=some (.dT (ϕ0 N ((useL s).take i) 0)))
 refine ϑK (xs:=yu) Iv_1 ⟨g0.trans g1,KB.refl_ d H1,⟨_,rfl⟩,Nat.zero_le _,elu,ed1⟩ (fun i σ H' _ z=>SqL.of z.2.2.2.2.1) (fun b_ r_ hb_ hr_=>?_) ?_
 ·rintro i x σ H2 hx ⟨g2,kb2,⟨x2,rfl⟩,hi,elu2,ed2⟩
  obtain⟨u,hri,rb,rfl,hrb⟩:=ϖr hyu hx
  have hrb2:=kbT kb2 ed1 hrb
  have hil:i < (useL s).length:=(List.getElem?_eq_some_iff.mp hri).1
  have htl:((useL s).take i).length=i:=by rw[List.length_take];omega
  have hnn:valV (ϕ0 N ((useL s).take i) 0) (keyR N u)=none:=by
   refine ϱe (ϰT (r:=0) ?_)
   rw[← ϖA hri]
   exact hnd.sublist (List.take_sublist _ _)
  have hlen:(ϕ0 N ((useL s).take i) 0).length=i:=by rw[ϵb,htl]
  refine⟨_,rfl,d,_,rfl,.inr ⟨_,ed2,rfl⟩,_,rfl,_,rfl,d,_,rfl,DPut.t (k:=keyR N u) ed2 hrb2 (szl' (by omega)),?_⟩
  refine⟨ϖC g2 hd,kb2.here,⟨_,rfl⟩,hil,(ϖp hld).trans elu2,?_⟩
  rw[ϖc,ϵL _ hnn,ϖA hri,ϵs,hlen,htl,Nat.zero_add]
 rintro σ H2 ⟨g2,_,⟨x2,rfl⟩,_,elu2,ed2⟩
 rw[← hyu.length,List.take_length] at ed2
 refine⟨_,rfl,_,_,_,_,rfl,rfl,Same.seqT g2 h1,rfl,_,rfl,N,pb,s.begins,d,useL s,rfl,⟨xb,g2.seq h2,ϖb (fun _ _=>MkP.mono g2) h5⟩,ok.lb,ed2,fun qb H3 g3 hqb ⟨yb,eb,pB⟩=>?_⟩
 have g23:=g2.trans g3
 refine⟨_,rfl,_,_,_,_,rfl,rfl,Same.seqT g23 h1,rfl,_,rfl,N,ps,s.steps,d,useL s,rfl,⟨xs,g23.seq h3,ϖb (fun _ _=>StP.mono g23) h6⟩,ok.ls,g3 _ _ ed2,fun qs H4 g4 hqs ⟨ys,es,pS⟩=>?_⟩
 have g24:=g23.trans g4
 refine⟨_,rfl,_,_,_,_,rfl,rfl,Same.seqT g24 h1,rfl,_,rfl,N,pe,s.ends,d,useL s,rfl,⟨xe,g24.seq h4,ϖb (fun _ _=>MkP.mono g24) h7⟩,ok.le,(g3.trans g4) _ _ ed2,fun qe H5 g5 hqe ⟨ye,ee,pE⟩=>?_⟩
 have g25:=g24.trans g5
 refine⟨_,rfl,_,_,_,_,rfl,rfl,Same.seqT g25 h1,rfl,_,rfl,d,_,rfl,.inr ⟨_,((g3.trans g4).trans g5) _ _ ed2,rfl⟩,_,rfl,_,rfl,_,rfl,(by show 5≤sizeLine;decide),fun v hv=>?_⟩
 rw[ϵb]
 have gv:=ϖg hv (.tup [V.str s.signs,V.int ((useL s).length:Int),V.ref qb,V.ref qs,V.ref qe])
 have G3:=(g4.trans g5).trans gv
 have G4:=g5.trans gv
 have AP:Apart H qb qs qe:=⟨g2.free hqb,g23.free hqs,g24.free hqe,ϖs eb hqs,ϖs (g4 _ _ eb) hqe,ϖs es hqe⟩
 exact q _ _ qb qs qe (g25.trans gv) ⟨v,yb,ys,ye,rfl,SqT.of ϖc,G3 _ _ eb,G4 _ _ es,gv _ _ ee,ϖb (fun _ _=>MkV.mono (Same.grow G3)) pB,ϖb (fun _ _=>StV.mono (Same.grow G4)) pS,ϖb (fun _ _=>MkV.mono (Same.grow gv)) pE⟩ AP
theorem sc_joined_begins:FnScope ["one","other","begin","opening","read"] ["one","other"] (ϖj ϑb):=⟨rfl,rfl,rfl,by decide +kernel,rfl,by decide +kernel,by decide +kernel⟩
theorem ϱu (B:Bi mg) {ϖe ϖi:Addr} (XB:Xb K mg ϖe ϖi) (ϑe:Cal P w K mg base "read_from" ["steps","room","text"] 1 (ϕE K)) (ϖL:Cal P w K mg base "steps_by_start" ["scribe"] 1 (ϱy K)) {f:Addr}{fd:FuncData} (F:Fun K "joined_begins" "joined_begins" ϑb f fd):FnOk P w K mg base CX0 2 f fd ["one","other"] (spJB K):=by
 refine F.ok sc_joined_begins (fun vs H Q E h=>?_) (fun cdv A outer s H vs Q E hr h=>?_)
 ·obtain⟨v,s,pb,ps,pe,w,u,qb,qs,qe,rfl,_⟩:=h;rfl
 obtain⟨v,s,pb,ps,pe,w,u,qb,qs,qe,rfl,hV,hU,jk,q⟩:=h
 refine⟨_,(ϖd (ϑm (PW.pt (ϱp (ϖx (kOp (K:=K) rEqD (ϲV hr.units)) (ϖq (kIx (K:=K) rIxT ϖl) (pv 0) (ϖw (by rfl) B.BEGINS) (by intro _ _;rfl)) (ϖV ϖf) (ϖH _)) (ϰv (ϖx (kOp (K:=K) rEqD (ϲV hr.units)) (ϖq (kIx (K:=K) rIxT ϖl) (pv 1) (ϖw (by rfl) B.BEGINS) (by intro _ _;rfl)) (ϖV ϖf) (ϖH _))))) (ϖk (ϖE (ϖV ϖf))) ϖG)
   (ϖd (ϖn (i:=2) sc_joined_begins.nd rfl (Or.inl rfl) (ϖq (kIx (K:=K) rIxL ϑj) (ϖq (kIx (K:=K) rIxT ϖl) (pv 0) (ϖw (by rfl) B.BEGINS) (by intro _ _;rfl)) ϖh (by intro _ _;rfl)))
   (ϖd (ϖn (i:=3) sc_joined_begins.nd rfl (Or.inl rfl) (ϖq (kIx (K:=K) rIxL ϑj) (ϖq (kIx (K:=K) rIxT ϖl) (pv 1) (ϖw (by rfl) B.BEGINS) (by intro _ _;rfl)) ϖh (by intro _ _;rfl)))
   (ϖd (ϖn (i:=4) sc_joined_begins.nd rfl (Or.inl rfl) (ϖM ϑe hr (by decide:1≤1) (by rfl) (ϖa (hs:=ϕj) (ϖM ϖL hr (by decide:1≤1) (by rfl) (ϖa (pv 1) ϖf)) (ϖa (hs:=ϖQ) (ϖq (kIx (K:=K) rIxT ϖl) (pv 3) ϖh (by intro _ _;rfl)) (ϖa (hs:=ϖQ) (ϖq (kIx (K:=K) rIxT ϖl) (pv 2) ϖh (by intro _ _;rfl)) ϖf)))))
   (ϖd (ϑm (ϖx op_isN (pv 4) ϰQ (ϖH _)) (ϖk (ϖE (ϖV ϖf))) ϖG)
   (ϖk (ϖE (ϖV (ϖa (hs:=ϲo) (ϑl (ϖa (hs:=ϲo) (ϑl (ϖa (hs:=ϖQ) (ϖq (kIx (K:=K) rIxT ϖl) (pv 2) ϖh (by intro _ _;rfl)) (ϖa (hs:=ϖQ) (ϖq (kIx (K:=K) rIxT ϖl) (pv 4) ϖh (by intro _ _;rfl)) ϖf))) (ϖa (hs:=ϱj) (ϖt ϑY (ϖq (kIx (K:=K) rIxT ϖl) (pv 3) ϖh (by intro _ _;rfl)) (ϖq (kIx (K:=K) rIxT ϖl) (pv 4) ϖh (by intro _ _;rfl))) ϖf))) ϖf))))))))),?_⟩
 have hU0:=hU
 obtain⟨a,xb,xs,xe,rfl,h1,h2,h3,h4,h5,h6,h7⟩:=hV
 obtain⟨b,yb,ys,ye,rfl,k1,k2,k3,k4,k5,k6,k7⟩:=hU
 have nil:jB s u=[]→∀{H':Hp},Same H H'→∀l,H' l=none→Q (.ref l) (upd H' l (.lst [])):=fun e H' g l hl=>q l _ (g.trans (ϖg hl _)) (g.free hl) ⟨[],ϖc,by rw[e];exact .nil⟩
 refine⟨_,rfl,_,_,_,_,rfl,rfl,h1,rfl,szl (by simp),fun l0 hl0=>?_⟩
 have g0:=ϖg hl0 (.lst [])
 have e0:=ϖc (H:=H) (a:=l0) (o:=.lst [])
 generalize upd H l0 (.lst [])=H0 at g0 e0⊢
 refine⟨.lst (s.begins.map dMk),.lst [],ϖZ (g0.seq h2) (ϰO (m:=(0,"")) (ϖb (fun _ _=>MkV.mono (Same.grow g0)) h5)),ϖZ (SqL.of e0) .nil,by have:=ϑz dMk 1 ϰf s.begins;simp only[deep];omega,_,rfl,?_⟩
 rw[ϱE]
 refine ϑ8 (fun c=>iteT ⟨szl (by simp),fun l hl=>nil (by unfold jB;rw[c]) g0 l hl⟩) (fun c=>?_)
 refine⟨_,rfl,_,_,_,_,rfl,rfl,Same.seqT g0 k1,rfl,szl (by simp),fun l1 hl1=>?_⟩
 have g1:=g0.trans (ϖg hl1 (.lst []))
 have e1:=ϖc (H:=H0) (a:=l1) (o:=.lst [])
 generalize upd H0 l1 (.lst [])=H1 at g1 e1⊢
 refine⟨.lst (u.begins.map dMk),.lst [],ϖZ (g1.seq k2) (ϰO (m:=(0,"")) (ϖb (fun _ _=>MkV.mono (Same.grow g1)) k5)),ϖZ (SqL.of e1) .nil,by have:=ϑz dMk 1 ϰf u.begins;simp only[deep];omega,_,rfl,?_⟩
 rw[ϱE]
 refine ϑ8 (fun c2=>⟨szl (by simp),fun l hl=>nil (by unfold jB;rw[c2];cases s.begins<;>rfl) g1 l hl⟩) (fun c2=>?_)
 cases hsb:s.begins with
 |nil=>exact absurd hsb c
 |cons m M=>
 cases hub:u.begins with
 |nil=>exact absurd hub c2
 |cons o O=>
 have hm:m∈s.begins:=by rw[hsb];exact List.mem_cons_self ..
 have ho:o∈u.begins:=by rw[hub];exact List.mem_cons_self ..
 have ur:0 < u.rooms:=by have:=jk.ou.mb o ho;omega
 have hN:=ϵj ur
 rw[hsb] at h5
 rw[hub] at k5
 cases h5 with
 |cons hx0 _=>
 cases k5 with
 |cons hy0 _=>
 obtain⟨bm,rfl,hbm⟩:=hx0
 obtain⟨bo,rfl,hbo⟩:=hy0
 refine⟨_,rfl,_,_,_,_,rfl,rfl,Same.seqT g1 h1,rfl,_,_,_,_,rfl,rfl,g1.seq h2,ϖ9 (j:=0) rfl,?_⟩
 refine⟨_,rfl,_,_,_,_,rfl,rfl,Same.seqT g1 k1,rfl,_,_,_,_,rfl,rfl,g1.seq k2,ϖ9 (j:=0) rfl,?_⟩
 refine⟨_,rfl,_,u,qb,qs,qe,rfl,hU0.mono g1,by have:=jk.l2;omega,fun vS H2 g2 hS=>?_⟩
 have g12:=g1.trans g2
 refine⟨_,rfl,_,_,_,_,rfl,rfl,Same.seqT g12 hbo,rfl,_,rfl,_,_,_,_,rfl,rfl,Same.seqT g12 hbm,rfl,vS,_,u,o.1,m.2,rfl,hS,jk.su,jk.ss.1 m hm,fun hnone H3 g3=>?_,fun r x hgo hx p H3 g3 ep=>?_⟩
 ·refine⟨_,rfl,rfl,_,rfl,ϛl rfl ⟨szl (by simp),fun l hl=>nil ?_ (g12.trans g3) l hl⟩⟩
  unfold jB rdU
  rw[hsb,hub]
  show(match goM u (o.1,"") (cl m.2) with|none=>[]|some c=>[(enc (jN u) m.1 c.1,o.2++c.2)])=[]
  rw[hnone]
 have g13:=g12.trans g3
 have hr:=ϱW (fun t ht=>(jk.ou.ms t ht).2.2) (cl m.2) (o.1,"") (r,x) (jk.ou.mb o ho) hgo
 have hr:0≤r∧r < u.rooms:=hr
 refine⟨_,rfl,rfl,_,rfl,iteD (fun z=>nomatch z) ?_⟩
 refine⟨_,rfl,_,_,_,_,rfl,rfl,Same.seqT g13 hbm,rfl,_,rfl,_,_,_,_,rfl,rfl,SqT.of ep,rfl,(by show 2≤sizeLine;decide),fun p1 hp1=>?_⟩
 have gp1:=ϖg hp1 (.tup [V.int m.1,V.int r])
 have ep1:=ϖc (H:=H3) (a:=p1) (o:=.tup [V.int m.1,V.int r])
 have g14:=g13.trans gp1
 have ep':=gp1 _ _ ep
 generalize upd H3 p1 (.tup [V.int m.1,V.int r])=H4 at gp1 ep1 g14 ep'⊢
 have ol:=jk.su.1 o ho
 refine⟨_,rfl,_,_,_,_,rfl,rfl,Same.seqT g14 hbo,rfl,_,rfl,_,_,_,_,rfl,rfl,SqT.of ep',rfl,_,_,rfl,rfl,szl (by omega),(by show 2≤sizeLine;decide),fun p2 hp2=>?_⟩
 have gp2:=ϖg hp2 (.tup [V.ref p1,V.str (o.2++x)])
 have ep2:=ϖc (H:=H4) (a:=p2) (o:=.tup [V.ref p1,V.str (o.2++x)])
 have g15:=g14.trans gp2
 have ep1:=gp2 _ _ ep1
 generalize upd H4 p2 (.tup [V.ref p1,V.str (o.2++x)])=H5 at gp2 ep1 g15 ep2⊢
 refine⟨szl (by simp),fun l hl=>?_⟩
 have gl:=ϖg hl (.lst [V.ref p2])
 refine q l _ (g15.trans gl) (g15.free hl) ⟨[V.ref p2],ϖc,?_⟩
 have e:jB s u=[(enc (jN u) m.1 r,o.2++x)]:=by
  unfold jB rdU
  rw[hsb,hub]
  show(match goM u (o.1,"") (cl m.2) with|none=>[]|some c=>[(enc (jN u) m.1 c.1,o.2++c.2)])=_
  rw[hgo]
 rw[e]
 refine .cons ⟨p2,p1,rfl,SqT.of (gl _ _ ep2),?_⟩ .nil
 show _=some (tupR (jN u) (enc (jN u) m.1 r))
 rw[ϛe hr.1 (by rw[hN];exact hr.2)]
 exact gl _ _ ep1
theorem sc_joined_steps:FnScope ["steps","reader","pair","joined","step","read"] ["steps","reader","pair"] (ϖj ϑh):=⟨rfl,rfl,rfl,by decide +kernel,rfl,by decide +kernel,by decide +kernel⟩
theorem ϱL (B:Bi mg) {ϖe ϖi:Addr} (XB:Xb K mg ϖe ϖi) (ϑe:Cal P w K mg base "read_from" ["steps","room","text"] 1 (ϕE K)) {f:Addr}{fd:FuncData} (F:Fun K "joined_steps" "joined_steps" ϑh f fd):FnOk P w K mg base CX0 2 f fd ["steps","reader","pair"] (spJS K):=by
 refine F.ok sc_joined_steps (fun vs H Q E h=>?_) (fun cdv A outer s H vs Q E hr h=>?_)
 ·obtain⟨as_,L,vS,H0,u,p,rp,rfl,_⟩:=h;rfl
 obtain⟨as_,L,vS,H0,u,p,rp,rfl,⟨xs,h3,h6⟩,hL,hw,hS,hSh,ou,ur,hrp,q⟩:=h
 refine⟨_,(ϖd (ϖn (i:=3) sc_joined_steps.nd rfl (Or.inl rfl) (ϖV ϖf))
   (ϖd (ϑs PassesOwn.never (by rfl) (kPI (K:=K) (fun k=>ϑO k _) (ϖR (pv 0))) (ϖm (i:=4) sc_joined_steps.nd rfl (Or.inl rfl)) (ϖd (ϖn (i:=5) sc_joined_steps.nd rfl (Or.inl rfl) (ϖM ϑe hr (by decide:1≤1) (by rfl) (ϖa (pv 1) (ϖa (hs:=ϖQ) (ϖq (kIx (K:=K) rIxT ϖl) (pv 2) ϖh (by intro _ _;rfl)) (ϖa (hs:=ϖQ) (ϖq (kIx (K:=K) rIxT ϖl) (pv 4) ϖh (by intro _ _;rfl)) ϖf)))))
   (ϖk (ϑm (ϖx ϡr (pv 5) ϰQ (ϖH _)) (ϖk (ϑ6 (kPE (K:=K) (fun k=>tBM k _ _ _ _) (ϰB PySem.F.plainAttrs_list PySem.F.slot_list_append PySem.F.type_list_append ϕI (pv 3) (ϖa (hs:=ϲo) (ϑl (ϖa (pv 2) (ϖa (hs:=ϖQ) (ϖq (kIx (K:=K) rIxT ϖl) (pv 4) ϖh (by intro _ _;rfl)) (ϖa (hs:=ϖQ) (ϖq (kIx (K:=K) rIxT ϖl) (pv 5) ϖh (by intro _ _;rfl)) (ϖa (hs:=ϲo) (ϑl (ϖa (hs:=ϖQ) (ϖq (kIx (K:=K) rIxT ϖl) (pv 4) (ϖw (by rfl) B.INTO) (by intro _ _;rfl)) (ϖa (hs:=ϖQ) (ϖq (kIx (K:=K) rIxT ϖl) (pv 5) ϖh (by intro _ _;rfl)) ϖf))) ϖf))))) ϖf))))) ϖG))))
   (ϖk (ϖE (pv 3))))),?_⟩
 have hN:jN u=u.rooms:=ϵj ur
 have hsx:L.length=xs.length:=h6.length
 refine⟨szl (by simp),fun lj hlj=>?_⟩
 have gj:=ϖg hlj (.lst [])
 refine⟨_,rfl,as_,rfl,⟨xs,gj.seq h3⟩,?_⟩
 let Iv_1:Nat→L2.St→Hp→Prop:=(fun i σ H'=>Same H H'∧i≤xs.length∧(∃ x4 x5,σ=[some (.ref as_),some vS,some (.ref rp),some (.ref lj),x4,x5])∧∃zs,H' lj=some (.lst zs)∧Paired (StP (jN u) K H') ((L.take i).filterMap (jT u p)) zs)
 refine ϑK (xs:=xs) Iv_1
  ⟨gj,Nat.zero_le _,⟨_,_,rfl⟩,[],ϖc,.nil⟩ (fun i σ H' _ z=>z.1.seq h3) (fun b_ r_ hb_ hr_=>?_) ?_
 ·rintro i x σ H1 hx ⟨g1,hi,⟨x4,x5,rfl⟩,zs,ez,hz⟩
  obtain⟨t,ht,b,rfl,hb⟩:=ϖr h6 hx
  have hil:i < xs.length:=(List.getElem?_eq_some_iff.mp hx).1
  have htm:=List.mem_of_getElem? ht
  refine⟨_,rfl,_,rfl,_,_,_,_,rfl,rfl,SqT.of (g1 _ _ hrp),rfl,_,rfl,_,_,_,_,rfl,rfl,Same.seqT g1 hb,rfl,vS,_,u,_,t.2.2.1,rfl,hS.mono g1,hSh,hw t htm,fun hnone H2 g2=>?_,fun r y hgo hy p2 H2 g2 ep=>?_⟩
  ·refine⟨_,rfl,rfl,_,rfl,ϰX (fun z=>absurd rfl z) (fun _=>⟨g1.trans g2,hil,⟨_,_,rfl⟩,zs,g2 _ _ ez,?_⟩)⟩
   rw[ϖA ht,List.filterMap_append,List.filterMap_cons,ϟ8 hnone]
   simpa using ϖb (fun _ _=>StP.mono g2) hz
  have g12:=g1.trans g2
  have m0:=Int.emod_nonneg p (show u.rooms≠0 by omega)
  have m1:=Int.emod_lt_of_pos p ur
  have hr:=ϱW (fun t ht=>(ou.ms t ht).2.2) (cl t.2.2.1) (p % jN u,"") (r,y) (by rw[hN];exact⟨m0,m1⟩) hgo
  have hr:0≤r∧r < u.rooms:=hr
  have ez2:=g2 _ _ ez
  have hz2:=ϖb (fun _ _=>StP.mono g2) hz
  have hzl:zs.length≤999:=by
   rw[← hz.length]
   have:=List.length_filterMap_le (jT u p) (L.take i)
   rw[List.length_take] at this
   omega
  refine⟨_,rfl,rfl,_,rfl,ϰX (fun _=>?_) (fun z=>nomatch z)⟩
  refine⟨_,rfl,.inl ⟨rfl,_,SqL.of ez2⟩,_,rfl,_,rfl,_,_,_,_,rfl,rfl,Same.seqT g12 hb,rfl,_,rfl,_,_,_,_,rfl,rfl,SqT.of ep,rfl,_,rfl,_,_,_,_,rfl,rfl,Same.seqT g12 hb,rfl,_,rfl,_,_,_,_,rfl,rfl,SqT.of ep,rfl,(by show 2≤sizeLine;decide),fun p3 hp3=>?_⟩
  have g3:=ϖg hp3 (.tup [V.int t.2.2.2,V.int r])
  have e3:=ϖc (H:=H2) (a:=p3) (o:=.tup [V.int t.2.2.2,V.int r])
  have g13:=g12.trans g3
  have ez3:=g3 _ _ ez2
  have hz3:=ϖb (fun _ _=>StP.mono g3) hz2
  generalize upd H2 p3 (.tup [V.int t.2.2.2,V.int r])=H3 at g3 e3 g13 ez3 hz3⊢
  refine⟨(by show 4≤sizeLine;decide),fun p4 hp4=>?_⟩
  have g4:=ϖg hp4 (.tup [V.ref rp,V.str t.2.1,V.str y,V.ref p3])
  have e4:=ϖc (H:=H3) (a:=p4) (o:=.tup [V.ref rp,V.str t.2.1,V.str y,V.ref p3])
  have g14:=g13.trans g4
  have ez4:=g4 _ _ ez3
  have hz4:=ϖb (fun _ _=>StP.mono g4) hz3
  have e34:=g4 _ _ e3
  generalize upd H3 p4 (.tup [V.ref rp,V.str t.2.1,V.str y,V.ref p3])=H4 at g4 e4 g14 ez4 hz4 e34⊢
  have hlj4:∀b:Addr,∀xs:List V,H4 b=some (.tup xs)→upd H4 lj (.lst (zs++[V.ref p4])) b=some (.tup xs):=fun b xs hb=>by
   rw[ϖp (fun z=>by rw[z,ez4] at hb;cases hb)];exact hb
  refine⟨lj,zs,.ref p4,rfl,rfl,ez4,szl' (by omega),ϖC g14 hlj,hil,⟨_,_,rfl⟩,zs++[.ref p4],ϖc,?_⟩
  rw[ϖA ht,List.filterMap_append,List.filterMap_cons,ϝd hgo]
  have gt:=ϱG ez4 (.lst (zs++[V.ref p4]))
  refine ϖo (ϖb (fun _ _ ⟨b,c,e,z0,z1,z2,z3⟩=>⟨b,c,e,z0,gt.seqT z1,hlj4 _ _ z2,hlj4 _ _ z3⟩) hz4) (.cons ⟨p4,rp,p3,rfl,gt.seqT (SqT.of e4),hlj4 _ _ (g14 _ _ hrp),?_⟩ .nil)
  show _=some (tupR (jN u) (enc (jN u) t.2.2.2 r))
  rw[ϛe hr.1 (by rw[hN];exact hr.2)]
  exact hlj4 _ _ e34
 rintro σ H1 ⟨g1,_,⟨x4,x5,rfl⟩,zs,ez,hz⟩
 rw[← hsx,List.take_length] at hz
 exact⟨_,rfl,q lj _ g1 hlj ⟨zs,ez,hz⟩⟩
theorem sc_joined_steps_by_pair:FnScope ["one","other","begins","places","reader","found","front","behind","pair","steps"] ["one","other","begins"] (ϖj ϖK):=⟨rfl,rfl,rfl,by decide +kernel,rfl,by decide +kernel,by decide +kernel⟩
theorem ϕN (B:Bi mg) {ϖe ϖi:Addr} (XB:Xb K mg ϖe ϖi) (ϑX:Cal P w K mg base "places_at" ["steps","side"] 1 (ϰJ K)) (ϖL:Cal P w K mg base "steps_by_start" ["scribe"] 1 (ϱy K)) (ϕA:Cal P w K mg base "joined_steps" ["steps","reader","pair"] 2 (spJS K)) {f:Addr}{fd:FuncData} (F:Fun K "joined_steps_by_pair" "joined_steps_by_pair" ϖK f fd):FnOk P w K mg base CX0 3 f fd ["one","other","begins"] (spJP K):=by
 refine F.ok sc_joined_steps_by_pair (fun vs H Q E h=>?_) (fun cdv A outer s H vs Q E hr h=>?_)
 ·obtain⟨v,s,pb,ps,pe,w,u,qb,qs,qe,lb,rfl,_⟩:=h;rfl
 obtain⟨v,s,pb,ps,pe,w,u,qb,qs,qe,l0,rfl,hV,hU,jk,h200,⟨xm,em,hm⟩,bm,q⟩:=h
 refine⟨_,(ϖd (ϖn (i:=3) sc_joined_steps_by_pair.nd rfl (Or.inl rfl) (ϖM ϑX hr (by decide:1≤2) (by rfl) (ϖa (hs:=ϖQ) (ϖq (kIx (K:=K) rIxT ϖl) (pv 0) (ϖw (by rfl) B.STEPS) (by intro _ _;rfl)) (ϖa (ϖw (by rfl) B.OUT_OF) ϖf))))
   (ϖd (ϖn (i:=4) sc_joined_steps_by_pair.nd rfl (Or.inl rfl) (ϖM ϖL hr (by decide:1≤2) (by rfl) (ϖa (pv 1) ϖf)))
   (ϖd (ϖn (i:=5) sc_joined_steps_by_pair.nd rfl (Or.inl rfl) ϰa)
   (ϖd (ϑF (i:=6) sc_joined_steps_by_pair.nd rfl (Or.inl rfl) (by rfl) (by rfl) (ϑx (N':=["pair","word"]) (js:=[none,none]) rfl (by decide +kernel) rfl (by decide +kernel) rfl rfl) (kPI (K:=K) (fun k=>ϑO k _) (ϖR (pv 2))) (fun _ _ _ _ _=>(kPG (K:=K) (fun k=>gTup k 2 _) (ϕJ (n:=2) (by rfl) (ϖu (ϖm (i:=0) (show List.Nodup (["pair","word"]:List Str) by decide +kernel) rfl (Or.inl rfl)) (ϖu (ϖm (i:=1) (show List.Nodup (["pair","word"]:List Str) by decide +kernel) rfl (Or.inl rfl)) ϑV))))) (fun _ _ _ _ _=>ϕs) (fun _ _ _ _ _=>(pv 0)))
   (ϖd (ϡP PassesOwn.never (ϖx (kOp (K:=K) rNeD (ϵr hr.units)) (pv 6) (ϖV ϖf) (ϖH _)) (ϖd (ϖn (i:=7) sc_joined_steps_by_pair.nd rfl (Or.inl rfl) (ϖV ϖf))
   (ϖd (ϑs PassesOwn.never (by rfl) (kPI (K:=K) (fun k=>ϑO k _) (ϖR (pv 6))) (ϖm (i:=8) sc_joined_steps_by_pair.nd rfl (Or.inl rfl)) (ϖk (ϑm (ϰm (ϰx (ϑT hr) (pv 8) (pv 5))) (ϖd (ϑF (i:=9) sc_joined_steps_by_pair.nd rfl (Or.inl rfl) (by rfl) (by rfl) (ϑx (N':=["place","one"]) (js:=[none,some 0]) rfl (by decide +kernel) rfl (by decide +kernel) rfl rfl) (kPI (K:=K) (fun k=>ϑO k _) (ϖR (kPE (K:=K) (fun k=>tBM k _ _ _ _) (ϰB PySem.F.plainAttrs_dict PySem.F.slot_dict_get PySem.F.type_dict_get (ϝ_ hr) (pv 3) (ϖa (hs:=ϖQ) (ϖq (kIx (K:=K) rIxT ϖl) (pv 8) ϖh (by intro _ _;rfl)) (ϖa (hs:=ϡz) (ϖV ϖf) ϖf)))))) (fun _ _ _ _ _=>(ϖm (i:=0) (show List.Nodup (["place","one"]:List Str) by decide +kernel) rfl (Or.inl rfl))) (fun _ _ _ _ _=>ϕs) (fun _ _ _ _ _=>(ϖq (kIx (K:=K) rIxL ϑj) (ϖq (kIx (K:=K) rIxT ϖl) (pv 1) (ϖw (by rfl) B.STEPS) (by intro _ _;rfl)) (pv 0) (by intro _ _;rfl))))
   (ϖd (ϰW (ϑT hr) (pv 5) (pv 8) (ϖM ϕA hr (by decide:2≤2) (by rfl) (ϖa (pv 9) (ϖa (pv 4) (ϖa (pv 8) ϖf)))) rfl)
   (ϖk (ϑ6 (kPE (K:=K) (fun k=>tBM k _ _ _ _) (ϰB PySem.F.plainAttrs_list PySem.F.slot_list_extend PySem.F.type_list_extend ϲn (pv 7) (ϖa (ϑR rfl (ϑx (N':=["step"]) (js:=[none]) rfl (by decide +kernel) rfl (by decide +kernel) rfl rfl) (kPI (K:=K) (fun k=>ϑO k _) (ϖR (ϕM (ϑT hr) (pv 5) (pv 8) (by intro _ _;rfl)))) (fun _ _ _ _ _=>(ϖm (i:=0) (show List.Nodup (["step"]:List Str) by decide +kernel) rfl (Or.inl rfl))) (fun _ _ _ _ _=>ϕs) (fun _ _ _ _ _=>(ϖq (kIx (K:=K) rIxT ϖl) (pv 0) (ϖw (by rfl) B.INTO) (by intro _ _;rfl)))) ϖf))))))) ϖG)))
   (ϖk (ϖn (i:=6) sc_joined_steps_by_pair.nd rfl (Or.inl rfl) (pv 7))))))
   (ϖk (ϖE (pv 5)))))))),?_⟩
 have hU0:=hU
 obtain⟨a,xb,xs,xe,rfl,h1,h2,h3,h4,h5,h6,h7⟩:=hV
 obtain⟨b,yb,ys,ye,rfl,k1,k2,k3,k4,k5,k6,k7⟩:=hU
 refine⟨_,rfl,_,_,_,_,rfl,rfl,h1,rfl,ps,0,rfl,.inl rfl,.inl ⟨s.steps,⟨xs,h3,h6⟩,by have:=jk.l1;omega,fun vP H1 g1 hPl=>?_⟩⟩
 obtain⟨pd,kvp,rfl,hpd0,hpd,bk⟩:=hPl
 refine⟨_,rfl,_,u,qb,qs,qe,rfl,hU0.mono g1,by have:=jk.l2;omega,fun vS H2 g2 hS=>?_⟩
 have g12:=g1.trans g2
 have hpd:=g2 _ _ hpd
 have bk:=bk.mono ϰn g2
 refine fun d hd=>?_
 have gd:=ϖg hd (.dT [])
 have ed:=ϖc (H:=H2) (a:=d) (o:=.dT [])
 generalize upd H2 d (.dT [])=H3 at gd ed⊢
 have em3:=gd _ _ (g12 _ _ em)
 have hm3:=ϖb (fun _ _=>MkP.mono (g12.trans gd)) hm
 refine⟨_,rfl,l0,rfl,⟨xm,SqL.of em3⟩,?_⟩
 refine ϖU (xs:=xm) (fun i ys τ H'=>H3=H'∧(∃ x y,τ=[x,y])∧i≤xm.length∧Paired (RmV (jN u) H3) (((jB s u).take i).map (·.1)) ys) ⟨rfl,⟨_,_,rfl⟩,Nat.zero_le _,.nil⟩ (fun i ys τ H' z=>z.1▸SqL.of em3) ?_ ?_
 ·rintro i x ys τ _ hx ⟨rfl,⟨x0,y0,rfl⟩,hi,hP⟩
  obtain⟨m,hm',bb,cc,rfl,hb,hc⟩:=ϖr hm3 hx
  have hil:i < xm.length:=(List.getElem?_eq_some_iff.mp hx).1
  refine⟨bb,_,rfl,hb,rfl,_,_,rfl,_,_,rfl,rfl,?_⟩
  refine⟨_,rfl,szl' ?_,rfl,⟨_,_,rfl⟩,hil,?_⟩
  ·rw[← hP.length,List.length_map,List.length_take,hm.length]
   have:(jB s u).length≤1:=by
    unfold jB
    split
    ·split<;>simp
    ·simp
   have:=hm.length
   omega
  ·rw[ϖA hm',List.map_append]
   exact ϖo hP (.cons ⟨cc,rfl,hc⟩ .nil)
 rintro yf τ _ ⟨rfl,_,_,hyf⟩ lf hlf
 rw[← hm.length,List.take_length] at hyf
 have gf:=ϖg hlf (.lst yf)
 have hfd:lf≠d:=(ϖs ed hlf).symm
 have ef:=ϖc (H:=H3) (a:=lf) (o:=.lst yf)
 have ed:=gf _ _ ed
 have hyf:=ϖb (fun _ _=>RmV.mono gf) hyf
 have g24:=gd.trans gf
 generalize upd H3 lf (.lst yf)=H4 at gf ef ed hyf g24⊢
 have hs0:H2 d=none:=hd
 obtain⟨Rn,hRn⟩:∃N:Nat,N=(s.rooms*u.rooms).toNat:=⟨_,rfl⟩
 have hR2:Rn≤200:=by omega
 refine⟨fun mm σ H'=>∃(k:Nat) (lf:Addr) (yf:List V) (kvs:List (List Key×V)) (x7 x8 x9:Option V),mm=2*(Rn-(itJ s u k).1.length)+min (itJ s u k).2.length 1∧σ=[some (.ref a),some (.ref b),some (.ref l0),some (.ref pd),some vS,some (.ref d),some (.ref lf),x7,x8,x9] ∧
   Same H2 H'∧H2 lf=none∧lf≠d∧H' lf=some (.lst yf)∧Paired (RmV (jN u) H') (itJ s u k).2 yf∧H' d=some (.dT kvs)∧Paired (JV K H' s u d) (itJ s u k).1 kvs∧JI s u (itJ s u k).1 []∧(∀ p∈(itJ s u k).2,0≤p∧p < s.rooms*u.rooms),
  ⟨_,0,lf,yf,[],_,_,_,rfl,rfl,g24,gd.free hlf,hfd,ef,hyf,ed,.nil,⟨List.nodup_nil,fun _ z=>(nomatch z),fun _ z=>(nomatch z),Nat.zero_le _⟩,fun p hp=>?_⟩,?_⟩
 ·obtain⟨m,hm',rfl⟩:=List.mem_map.mp (show p∈(jB s u).map (·.1) from hp)
  exact bm m hm'
 clear ef hyf ed g24
 rintro mm σ H4 ⟨k,lf,yf,kvs,x7,x8,x9,rfl,rfl,g4,hlf0,hlfd,elf,hyf,ed,hJ,ji,br⟩
 refine⟨_,rfl,szl (by simp),fun ln hln=>?_⟩
 have gn:=ϖg hln (.lst [])
 have en:=ϖc (H:=H4) (a:=ln) (o:=.lst [])
 have g4:=g4.trans gn
 have elf:=gn _ _ elf
 have ed:=gn _ _ ed
 have hyf:=ϖb (fun _ _=>RmV.mono gn) hyf
 have hJ:=ϖb (fun _ _=>JV.same gn) hJ
 generalize upd H4 ln (.lst [])=H5 at gn en g4 elf ed hyf hJ⊢
 refine⟨.lst ((itJ s u k).2.map (dRm (jN u))),.lst [],ϖZ (SqL.of elf) (ϵ1 hyf),ϖZ (SqL.of en) .nil,by have:=ϲa (jN u) (itJ s u k).2;simp only[deep];omega,_,rfl,?_⟩
 rw[ϝR]
 refine ϰX (fun hfr=>?_) (fun hfr=>?_)
 rotate_left
 ·exact⟨_,rfl,q d H5 _ k (g12.trans g4) (g12.free hd) hfr rfl ji ⟨kvs,ed,hJ⟩⟩
 have hfl:0 < (itJ s u k).2.length:=List.length_pos_iff.mpr hfr
 refine⟨_,fun σ' H' z=>z,?_⟩
 refine⟨szl (by simp),fun lb hlb=>?_⟩
 have gb:=ϖg hlb (.lst [])
 have eb:=ϖc (H:=H5) (a:=lb) (o:=.lst [])
 have hbf:lf≠lb:=ϖs elf hlb
 have hbd:d≠lb:=ϖs ed hlb
 have hlb2:H2 lb=none:=g4.free hlb
 have hJ:Paired (JV K H5 s u lb) (itJ s u k).1 kvs:=ϖb (fun _ _=>JV.x (fun xs z=>by rw[hlb] at z;cases z)) hJ
 have g4:=g4.trans gb
 have elf:=gb _ _ elf
 have ed:=gb _ _ ed
 have hyf:=ϖb (fun _ _=>RmV.mono gb) hyf
 have hJ:=ϖb (fun _ _=>JV.same gb) hJ
 generalize upd H5 lb (.lst [])=H6 at gb eb g4 elf ed hyf hJ⊢
 refine⟨_,rfl,lf,rfl,⟨_,SqL.of elf⟩,?_⟩
 let Iv_1:Nat→L2.St→Hp→Prop:=(fun i σ H'=>∃(st:List Int×List Int) (yb:List V) (kvs:List (List Key×V)) (x8 x9:Option V),st=((itJ s u k).2.take i).foldl (rd1 s u) ((itJ s u k).1,[])∧σ=[some (.ref a),some (.ref b),some (.ref l0),some (.ref pd),some vS,some (.ref d),some (.ref lf),some (.ref lb),x8,x9] ∧
   Same H2 H'∧H' lf=some (.lst yf)∧Paired (RmV (jN u) H') (itJ s u k).2 yf∧H' lb=some (.lst yb)∧Paired (RmV (jN u) H') st.2 yb∧H' d=some (.dT kvs)∧Paired (JV K H' s u lb) st.1 kvs∧JI s u st.1 st.2)
 refine ϑK (xs:=yf) Iv_1
  ⟨_,[],kvs,_,_,rfl,rfl,g4,elf,hyf,eb,.nil,ed,hJ,ji⟩ (fun i σ H' _ z=>by obtain⟨_,_,_,_,_,_,_,_,z,_⟩:=z;exact SqL.of z) (fun b_ r_ hb_ hr_=>?_) ?_
 ·clear g4 elf hyf eb ed hJ ji hfl hfr
  rintro i x σ H6 hx ⟨st,yb,kvs,x8,x9,est,rfl,g6,elf,hyf,elb,hyb,ed,hJ,ji⟩
  obtain⟨p,hp,rb,rfl,hrb⟩:=ϖr hyf hx
  have hpr:=br p (List.mem_of_getElem? hp)
  have ur:=ϰH jk hpr.1 hpr.2
  have hc:=ji.len h200
  have hcl:st.1.length≤200:=by omega
  have hest:=(ϟx (rd1 s u) ((itJ s u k).1,[]) hp)
  rw[← est] at hest
  refine⟨_,rfl,_,rfl,d,_,rfl,DGet.t (k:=keyR (jN u) p) ed hrb,_,rfl,?_⟩
  cases hv:valV kvs (keyR (jN u) p) with
  |some v=>
   have hin:p∈st.1:=Classical.byContradiction fun z=>by rw[(ϱT hJ).mpr z] at hv;cases hv
   refine iteF ?_
   exact⟨st,yb,kvs,_,_,by rw[hest];unfold rd1;rw[if_pos hin],rfl,g6,elf,hyf,elb,hyb,ed,hJ,ji⟩
  |none=>
  have hnot:=(ϱT hJ).mp hv
  have hst1:((itJ s u k).2.take (i+1)).foldl (rd1 s u) ((itJ s u k).1,[])=(st.1++[p],st.2++ϕS s u p):=by rw[hest];unfold rd1;rw[if_neg hnot]
  refine iteT ?_
  have hpd6:=g6 _ _ hpd
  refine⟨_,rfl,.inr (.inr (.inl ⟨rfl,.inl ⟨kvp,hpd6⟩⟩)),_,rfl,_,_,_,_,rfl,rfl,SqT.of hrb,rfl,szl (by simp),fun l1 hl1=>?_⟩
  have gl1:=ϖg hl1 (.lst [])
  have el1:=ϖc (H:=H6) (a:=l1) (o:=.lst [])
  have g7:=g6.trans gl1
  have elf:=gl1 _ _ elf
  have elb:=gl1 _ _ elb
  have ed:=gl1 _ _ ed
  have hpd7:=gl1 _ _ hpd6
  have hrb:=gl1 _ _ hrb
  have hyf:=ϖb (fun _ _=>RmV.mono gl1) hyf
  have hyb:=ϖb (fun _ _=>RmV.mono gl1) hyb
  have hJ:=ϖb (fun _ _=>JV.same gl1) hJ
  generalize upd H6 l1 (.lst [])=H7 at gl1 el1 g7 elf elb ed hpd7 hrb hyf hyb hJ⊢
  obtain⟨la,hla1,hla2,_⟩:=pl_get (bk.mono ϰn g7) (p / jN u) el1
  refine⟨pd,.int (p / jN u),.ref l1,_,rfl,rfl,DGet.k (k:=Sum.inl (p / jN u)) hpd7,?_⟩
  rw[hla1]
  have G7:=g12.trans g7
  refine⟨la,rfl,⟨_,SqL.of hla2⟩,?_⟩
  refine ϖU (xs:=(ϖT 0 s.steps (p / jN u)).map qV) (fun j ys τ H'=>H7=H'∧(∃ x,τ=[x,some (.ref a)])∧j≤(ϖT 0 s.steps (p / jN u)).length∧Paired (StV K H7) (((ϖT 0 s.steps (p / jN u)).take j).filterMap fun q=>s.steps[q]?) ys) ⟨rfl,⟨_,rfl⟩,Nat.zero_le _,.nil⟩ (fun j ys τ H' z=>z.1▸SqL.of hla2) ?_ ?_
  ·rintro j x ys τ _ hx ⟨rfl,⟨x0,rfl⟩,hj,hP⟩
   rw[List.getElem?_map] at hx
   cases hqj:(ϖT 0 s.steps (p / jN u))[j]? with
   |none=>rw[hqj] at hx;cases hx
   |some pq=>
   rw[hqj] at hx
   injection hx with hx
   subst hx
   obtain⟨t,ht,_⟩:=mem_placesOf.mp (List.mem_of_getElem? hqj)
   obtain⟨tb,hvt,htb⟩:=qs_pair h6 ht
   have hyl:ys.length≤999:=by
    rw[← hP.length]
    have a1:=List.length_filterMap_le (fun q=>s.steps[q]?) ((ϖT 0 s.steps (p / jN u)).take j)
    have a2:(ϖT 0 s.steps (p / jN u)).length≤s.steps.length:=by
     have:=List.length_filter_le (fun q=>decide (keyP 0 s.steps q=Sum.inl (p / jN u))) (List.range s.steps.length)
     rw[List.length_range] at this;exact this
    have a3:=jk.l1
    rw[List.length_take] at a1
    omega
   refine⟨_,rfl,_,_,_,_,rfl,rfl,Same.seqT G7 h1,rfl,_,rfl,_,_,_,_,rfl,rfl,G7.seq h3,ϖ9 hvt,szl' (by omega),rfl,⟨_,rfl⟩,(List.getElem?_eq_some_iff.mp hqj).1,?_⟩
   rw[ϖA hqj,List.filterMap_append,List.filterMap_cons,ht]
   exact ϖo hP (.cons ⟨tb,rfl,(Same.grow G7).seqT htb⟩ .nil)
  rintro zs τ _ ⟨rfl,_,_,hP⟩ l2 hl2
  rw[List.length_map,List.take_length] at hP
  have hP:Paired (StV K H7) (ϲv s (p / jN u)) zs:=hP
  have gl2:=ϖg hl2 (.lst zs)
  have el2:=ϖc (H:=H7) (a:=l2) (o:=.lst zs)
  have g8:=g7.trans gl2
  have elf:=gl2 _ _ elf
  have elb:=gl2 _ _ elb
  have ed:=gl2 _ _ ed
  have hrb:=gl2 _ _ hrb
  have hyf:=ϖb (fun _ _=>RmV.mono gl2) hyf
  have hyb:=ϖb (fun _ _=>RmV.mono gl2) hyb
  have hJ:=ϖb (fun _ _=>JV.same gl2) hJ
  have hP:=ϖb (fun _ _=>StV.mono (Same.grow gl2)) hP
  generalize upd H7 l2 (.lst zs)=H8 at gl2 el2 g8 elf elb ed hrb hyf hyb hJ hP⊢
  refine⟨_,rfl,_,rfl,_,rfl,l2,ϲv s (p / jN u),vS,H1,u,p,rb,rfl,⟨zs,SqL.of el2,hP⟩,by have:=ϲw s (p / jN u);have:=jk.l1;omega,fun t ht=>(jk.ss.2.1 t (mem_stOut.mp ht).1).2,hS.mono g8,jk.su,jk.ou,ur,hrb,fun lj H9 g9 hlj hwj=>?_⟩
  have hwj:StPW (jN u) K H9 lj (jS s u p):=hwj
  have g10:=g8.trans g9
  have hljb:lj≠lb:=(ϖs elb hlj).symm
  have hljd:lj≠d:=(ϖs ed hlj).symm
  have elf:=g9 _ _ elf
  have elb:=g9 _ _ elb
  have ed:=g9 _ _ ed
  have hrb:=g9 _ _ hrb
  have hyf:=ϖb (fun _ _=>RmV.mono g9) hyf
  have hyb:=ϖb (fun _ _=>RmV.mono g9) hyb
  have hJ:=ϖb (fun _ _=>JV.same g9) hJ
  have hkl:kvs.length≤999:=by rw[← hJ.length];omega
  refine⟨_,rfl,_,rfl,d,_,rfl,DPut.t (k:=keyR (jN u) p) ed hrb (szl' (by omega)),?_⟩
  have ts:=ϲx ed (fun _ z=>nomatch z) (.dT (putK kvs (keyR (jN u) p) (.ref lj)))
  have gt:=ϕD ed (fun _ z=>nomatch z) (fun _ _ z=>nomatch z) (.dT (putK kvs (keyR (jN u) p) (.ref lj)))
  have hJ2:=ϖb (fun _ _=>JV.upd (o':=.dT (putK kvs (keyR (jN u) p) (.ref lj))) ed (fun _ z=>nomatch z) (fun _ _ z=>nomatch z) (.inr fun _ z=>nomatch z)) hJ
  have elf:upd H9 d (.dT (putK kvs (keyR (jN u) p) (.ref lj))) lf=_:=(ϖp hlfd).trans elf
  have elb:upd H9 d (.dT (putK kvs (keyR (jN u) p) (.ref lj))) lb=_:=(ϖp hbd.symm).trans elb
  have ed2:=ϖc (H:=H9) (a:=d) (o:=.dT (putK kvs (keyR (jN u) p) (.ref lj)))
  have hyf:=ϖb (fun _ _=>RmV.ts ts) hyf
  have hyb:=ϖb (fun _ _=>RmV.ts ts) hyb
  have hrb:=ts _ _ hrb
  have g11:=ϖC (o:=.dT (putK kvs (keyR (jN u) p) (.ref lj))) g10 hs0
  obtain⟨zj,ezj,hzj⟩:=hwj
  have ezj:upd H9 d (.dT (putK kvs (keyR (jN u) p) (.ref lj))) lj=_:=(ϖp hljd).trans ezj
  have hzj:=ϖb (fun _ _=>StP.ts gt ts) hzj
  have hpk:=ϵL (.ref lj) hv
  rw[hpk] at hJ2 elf elb ed2 hyf hyb hrb g11 ezj hzj⊢
  have hJ3:=ϖo hJ2 (.cons (show JV K (upd H9 d (.dT (kvs++[(keyR (jN u) p,.ref lj)]))) s u lb p (keyR (jN u) p,.ref lj) from ⟨rfl,lj,rfl,hljb,zj,ezj,hzj⟩) .nil)
  generalize upd H9 d (.dT (kvs++[(keyR (jN u) p,.ref lj)]))=H10 at hJ2 elf elb ed2 hyf hyb hrb g11 ezj hzj hJ3⊢
  clear hJ2
  have hvp:valV (kvs++[(keyR (jN u) p,V.ref lj)]) (keyR (jN u) p)=some (.ref lj):=by rw[← hpk,ϰt,if_pos rfl]
  refine⟨_,rfl,.inl ⟨rfl,_,SqL.of elb⟩,_,rfl,_,rfl,d,_,rfl,hvp▸DGet.t (k:=keyR (jN u) p) ed2 hrb,lj,rfl,⟨zj,SqL.of ezj⟩,?_⟩
  refine ϖU (xs:=zj) (fun j ys τ H'=>H10=H'∧(∃ x,τ=[x])∧j≤zj.length∧Paired (RmV (jN u) H10) (((jS s u p).take j).map fun t=>t.2.2.2) ys) ⟨rfl,⟨_,rfl⟩,Nat.zero_le _,.nil⟩ (fun j ys τ H' z=>z.1▸SqL.of ezj) ?_ ?_
  ·rintro j x ys τ _ hx ⟨rfl,⟨x0,rfl⟩,hj,hP2⟩
   obtain⟨t,ht,bb,c1,c2,rfl,hb,_,hc2⟩:=ϖr hzj hx
   have hyl:ys.length≤999:=by
    rw[← hP2.length,List.length_map,List.length_take]
    have:=ϟs s u p
    have:=jk.l1
    omega
   refine⟨_,rfl,_,_,_,_,rfl,rfl,hb,rfl,szl' (by omega),rfl,⟨_,rfl⟩,(List.getElem?_eq_some_iff.mp hx).1,?_⟩
   rw[ϖA ht,List.map_append]
   exact ϖo hP2 (.cons ⟨c2,rfl,hc2⟩ .nil)
  rintro zg τ _ ⟨rfl,_,_,hzg⟩ l3 hl3
  rw[← hzj.length,List.take_length] at hzg
  have hzg:Paired (RmV (jN u) H10) (ϕS s u p) zg:=hzg
  have gl3:=ϖg hl3 (.lst zg)
  have el3:=ϖc (H:=H10) (a:=l3) (o:=.lst zg)
  have g12':=g11.trans gl3
  have elf:=gl3 _ _ elf
  have elb:=gl3 _ _ elb
  have ed2:=gl3 _ _ ed2
  have hyf:=ϖb (fun _ _=>RmV.mono gl3) hyf
  have hyb:=ϖb (fun _ _=>RmV.mono gl3) hyb
  have hJ:=ϖb (fun _ _=>JV.same gl3) hJ3
  have hzg:=ϖb (fun _ _=>RmV.mono gl3) hzg
  generalize upd H10 l3 (.lst zg)=H11 at gl3 el3 g12' elf elb ed2 hyf hyb hJ hzg⊢
  have ji2:=ji.add jk hpr hnot
  have hbl:=ji2.bl
  have hpl:=ji2.len h200
  refine⟨lb,l3,yb,zg,rfl,rfl,elb,el3,Nat.le_of_lt (szl' ?_),?_⟩
  ·rw[← hyb.length,← hzg.length]
   rw[List.length_append] at hbl
   omega
  have ts3:=ϲx elb (fun _ z=>nomatch z) (.lst (yb++zg))
  exact⟨_,yb++zg,_,_,_,hst1.symm,rfl,ϖC g12' hlb2,(ϖp hbf).trans elf,ϖb (fun _ _=>RmV.ts ts3) hyf,ϖc,ϖo (ϖb (fun _ _=>RmV.ts ts3) hyb) (ϖb (fun _ _=>RmV.ts ts3) hzg),(ϖp hbd).trans ed2,
   ϖb (fun _ _=>JV.upd elb (fun _ z=>nomatch z) (fun _ _ z=>nomatch z) (.inl rfl)) hJ,ji2⟩
 rintro σ H7 ⟨st,yb,kvs',x8',x9',est,rfl,g7,elf7,hyf7,elb7,hyb7,ed7,hJ7,ji7⟩
 rw[← hyf7.length,List.take_length] at est
 have est:st=itJ s u (k+1):=est
 subst est
 have hlen:=ϵn s u (itJ s u k).2 ((itJ s u k).1,[])
 have hlen:itJ s u (k+1)=((itJ s u k).1,[])∨(itJ s u k).1.length < (itJ s u (k+1)).1.length:=hlen
 have hc:=ji7.len h200
 refine⟨_,rfl,_,?_,k+1,lb,yb,kvs',_,_,_,rfl,rfl,g7,hlb2,hbd.symm,elb7,hyb7,ed7,ϖb (fun _ _=>JV.x (fun xs z=>by rw[ed7] at z;cases z)) hJ7,⟨ji7.nd,ji7.pr,fun _ z=>(nomatch z),Nat.zero_le _⟩,ji7.br⟩
 rcases hlen with e|e
 ·rw[e]
  show 2*(Rn-(itJ s u k).1.length)+min 0 1 < _
  omega
 ·omega
theorem sc_joined_ends:FnScope ["one","other","pairs","last_words","other_last_words","reader","joined","pair","read"] ["one","other","pairs"] (ϖj ϑo):=⟨rfl,rfl,rfl,by decide +kernel,rfl,by decide +kernel,by decide +kernel⟩
theorem ϵh (B:Bi mg) {ϖe ϖi:Addr} (XB:Xb K mg ϖe ϖi) (ϖL:Cal P w K mg base "steps_by_start" ["scribe"] 1 (ϱy K)) (ϑe:Cal P w K mg base "read_from" ["steps","room","text"] 1 (ϕE K)) {f:Addr}{fd:FuncData} (F:Fun K "joined_ends" "joined_ends" ϑo f fd):FnOk P w K mg base CX0 2 f fd ["one","other","pairs"] (spJE K):=by
 refine F.ok sc_joined_ends (fun vs H Q E h=>?_) (fun cdv A outer s H vs Q E hr h=>?_)
 ·obtain⟨v,s,pb,ps,pe,w,u,qb,qs,qe,lp,ys,P,rfl,_⟩:=h;rfl
 obtain⟨v,s,pb,ps,pe,w,u,qb,qs,qe,lp,yp,P,rfl,hV,hU,jk,elp,hyp,hP9,q⟩:=h
 refine⟨_,(ϖd (ϖn (i:=3) sc_joined_ends.nd rfl (Or.inl rfl) (ϑy (ϰ2 (K:=K) ϟ3 (ϱD (by rfl))) (by rfl) B.dict ϟU (ϖa (hs:=ϖQ) (ϖq (kIx (K:=K) rIxT ϖl) (pv 0) (ϖw (by rfl) B.ENDS) (by intro _ _;rfl)) ϖf)))
   (ϖd (ϖn (i:=4) sc_joined_ends.nd rfl (Or.inl rfl) (ϑy (ϰ2 (K:=K) ϟ3 (ϱD (by rfl))) (by rfl) B.dict ϟU (ϖa (hs:=ϖQ) (ϖq (kIx (K:=K) rIxT ϖl) (pv 1) (ϖw (by rfl) B.ENDS) (by intro _ _;rfl)) ϖf)))
   (ϖd (ϖn (i:=5) sc_joined_ends.nd rfl (Or.inl rfl) (ϖM ϖL hr (by decide:1≤1) (by rfl) (ϖa (pv 1) ϖf)))
   (ϖd (ϖn (i:=6) sc_joined_ends.nd rfl (Or.inl rfl) (ϖV ϖf))
   (ϖd (ϑs PassesOwn.never (by rfl) (kPI (K:=K) (fun k=>ϑO k _) (ϖR (pv 2))) (ϖm (i:=7) sc_joined_ends.nd rfl (Or.inl rfl)) (ϖk (ϑm (ϰm (ϵw (ϑT hr) (ϖq (kIx (K:=K) rIxT ϖl) (pv 7) ϖh (by intro _ _;rfl)) (pv 3))) (ϖd (ϖn (i:=8) sc_joined_ends.nd rfl (Or.inl rfl) (ϖM ϑe hr (by decide:1≤1) (by rfl) (ϖa (pv 5) (ϖa (hs:=ϖQ) (ϖq (kIx (K:=K) rIxT ϖl) (pv 7) ϖh (by intro _ _;rfl)) (ϖa (hs:=ϖQ) (ϕM (ϑT hr) (pv 3) (ϖq (kIx (K:=K) rIxT ϖl) (pv 7) ϖh (by intro _ _;rfl)) (by intro _ _;rfl)) ϖf)))))
   (ϖk (ϑm (PW.pt (ϱ6 (ϖx ϡr (pv 8) ϰQ (ϖH _)) (ϰp (ϰm (ϵw (ϑT hr) (ϖq (kIx (K:=K) rIxT ϖl) (pv 8) ϖh (by intro _ _;rfl)) (pv 4)))))) (ϖk (ϑ6 (kPE (K:=K) (fun k=>tBM k _ _ _ _) (ϰB PySem.F.plainAttrs_list PySem.F.slot_list_append PySem.F.type_list_append ϕI (pv 6) (ϖa (hs:=ϲo) (ϑl (ϖa (pv 7) (ϖa (hs:=ϱj) (ϖt ϑY (ϖq (kIx (K:=K) rIxT ϖl) (pv 8) ϖh (by intro _ _;rfl)) (ϕM (ϑT hr) (pv 4) (ϖq (kIx (K:=K) rIxT ϖl) (pv 8) ϖh (by intro _ _;rfl)) (by intro _ _;rfl))) ϖf))) ϖf))))) ϖG))) ϖG)))
   (ϖk (ϖE (pv 6)))))))),?_⟩
 have hU0:=hU.v
 obtain⟨a,xb,xs,xe,rfl,h1,h2,h3,h4,h5,h6,h7⟩:=hV
 obtain⟨b,yb,ys,ye,rfl,k1,k2,k3,k4,k5,k6,k7⟩:=hU
 refine⟨_,rfl,_,_,_,_,rfl,rfl,h1,rfl,pe,xe,ϰZ s.ends,rfl,h4,ϱN h7,fun d1 hd1=>?_⟩
 have g1:=ϖg hd1 (.dK (ϕq [] (ϰZ s.ends)))
 have e1:=ϖc (H:=H) (a:=d1) (o:=.dK (ϕq [] (ϰZ s.ends)))
 generalize upd H d1 (.dK (ϕq [] (ϰZ s.ends)))=H1 at g1 e1⊢
 refine⟨_,rfl,_,_,_,_,rfl,rfl,Same.seqT g1 k1,rfl,qe,ye,ϰZ u.ends,rfl,g1 _ _ k4,ϱN (ϖb (fun _ _=>MkV.mono (Same.grow g1)) k7),fun d2 hd2=>?_⟩
 have g2:=ϖg hd2 (.dK (ϕq [] (ϰZ u.ends)))
 have e2:=ϖc (H:=H1) (a:=d2) (o:=.dK (ϕq [] (ϰZ u.ends)))
 have e1:=g2 _ _ e1
 have g12:=g1.trans g2
 generalize upd H1 d2 (.dK (ϕq [] (ϰZ u.ends)))=H2 at g2 e1 e2 g12⊢
 refine⟨_,rfl,_,u,qb,qs,qe,rfl,hU0.mono g12,by have:=jk.l2;omega,fun vS H3 g3 hS=>?_⟩
 have e1:=g3 _ _ e1
 have e2:=g3 _ _ e2
 have g13:=g12.trans g3
 refine⟨szl (by simp),fun lj hlj=>?_⟩
 have g4:=ϖg hlj (.lst [])
 refine⟨_,rfl,lp,rfl,⟨yp,(g13.trans g4).seq (SqL.of elp)⟩,?_⟩
 let Iv_1:Nat→L2.St→Hp→Prop:=(fun i σ H'=>Same H3 H'∧i≤yp.length∧(∃ x7 x8,σ=[some (.ref a),some (.ref b),some (.ref lp),some (.ref d1),some (.ref d2),some vS,some (.ref lj),x7,x8])∧∃zs,H' lj=some (.lst zs)∧Paired (MkP (jN u) K H') ((P.take i).filterMap (jE1 s u)) zs)
 refine ϑK (xs:=yp) Iv_1
  ⟨g4,Nat.zero_le _,⟨_,_,rfl⟩,[],ϖc,.nil⟩ (fun i σ H' _ z=>(g13.trans z.1).seq (SqL.of elp)) (fun b_ r_ hb_ hr_=>?_) ?_
 ·rintro i x σ H5 hx ⟨g5,hi,⟨x7,x8,rfl⟩,zs,ez,hz⟩
  obtain⟨p,hp,rb,rfl,hrb⟩:=ϖr hyp hx
  have hil:i < yp.length:=(List.getElem?_eq_some_iff.mp hx).1
  have hrb5:=(g13.trans g5) _ _ hrb
  have e15:=g5 _ _ e1
  have e25:=g5 _ _ e2
  have stay:jE1 s u p=none→∀{H6:Hp},Same H5 H6→Paired (MkP (jN u) K H6) ((P.take (i+1)).filterMap (jE1 s u)) zs:=fun e H6 g6=>by
   rw[ϖA hp,List.filterMap_append,List.filterMap_cons,e]
   simpa using ϖb (fun _ _=>MkP.mono g6) hz
  refine⟨_,rfl,_,_,_,_,rfl,rfl,SqT.of hrb5,rfl,_,rfl,d1,_,rfl,DGet.k (k:=Sum.inl (p / jN u)) e15,_,rfl,?_⟩
  have hv1:=ϟh s.ends (p / jN u)
  cases hl1:ϕT s.ends (p / jN u) with
  |none=>
   rw[hl1] at hv1
   rw[hv1]
   exact iteF ⟨g5,hil,⟨_,_,rfl⟩,zs,ez,stay (by unfold jE1;rw[hl1];rfl) (Same.refl _)⟩
  |some w1=>
  rw[hl1] at hv1
  have hv1:valV (ϕq [] (ϰZ s.ends)) (Sum.inl (p / jN u))=some (V.str w1):=hv1
  rw[hv1]
  have hw1:w1.length≤100:=jk.ss.2.2 _ (ϰw hl1)
  refine iteT ?_
  refine⟨_,rfl,_,rfl,_,_,_,_,rfl,rfl,SqT.of hrb5,rfl,_,rfl,_,rfl,_,_,_,_,rfl,rfl,SqT.of hrb5,rfl,d1,_,rfl,hv1▸DGet.k (k:=Sum.inl (p / jN u)) e15,vS,_,u,p % jN u,w1,rfl,hS.mono g5,jk.su,hw1,fun hnone H6 g6=>?_,fun r y hgo hy p2 H6 g6 ep=>?_⟩
  ·refine⟨_,rfl,rfl,_,rfl,ϰX (fun z=>absurd rfl z) (fun _=>⟨g5.trans g6,hil,⟨_,_,rfl⟩,zs,g6 _ _ ez,stay ?_ g6⟩)⟩
   have hnone:rdU u (p % jN u) w1=none:=hnone
   unfold jE1;rw[hl1]
   show(rdU u (p % jN u) w1).bind _=none
   rw[hnone];rfl
  have hgo:rdU u (p % jN u) w1=some (r,y):=hgo
  have hej:jE1 s u p=(ϕT u.ends r).map fun z=>(p,y++z):=by
   unfold jE1;rw[hl1]
   show(rdU u (p % jN u) w1).bind _=_
   rw[hgo];rfl
  have e16:=g6 _ _ e15
  have e26:=g6 _ _ e25
  refine⟨_,rfl,rfl,_,rfl,ϰX (fun _=>?_) (fun z=>nomatch z)⟩
  refine⟨_,rfl,_,_,_,_,rfl,rfl,SqT.of ep,rfl,_,rfl,d2,_,rfl,DGet.k (k:=Sum.inl r) e26,_,rfl,?_⟩
  have hv2:=ϟh u.ends r
  cases hl2:ϕT u.ends r with
  |none=>
   rw[hl2] at hv2
   rw[hv2]
   exact iteF ⟨g5.trans g6,hil,⟨_,_,rfl⟩,zs,g6 _ _ ez,stay (by rw[hej,hl2];rfl) g6⟩
  |some w2=>
  rw[hl2] at hv2
  have hv2:valV (ϕq [] (ϰZ u.ends)) (Sum.inl r)=some (V.str w2):=hv2
  rw[hv2]
  have hw2:w2.length≤100:=jk.su.2.2 _ (ϰw hl2)
  have ez6:=g6 _ _ ez
  have hz6:=ϖb (fun _ _=>MkP.mono g6) hz
  have g56:=g5.trans g6
  have hzl:zs.length≤999:=by
   rw[← hz.length]
   have:=List.length_filterMap_le (jE1 s u) (P.take i)
   rw[List.length_take] at this
   omega
  refine iteT ⟨_,rfl,.inl ⟨rfl,_,SqL.of ez6⟩,_,rfl,_,rfl,_,_,_,_,rfl,rfl,SqT.of ep,rfl,_,rfl,_,rfl,_,_,_,_,rfl,rfl,SqT.of ep,rfl,d2,_,rfl,hv2▸DGet.k (k:=Sum.inl r) e26,_,_,rfl,rfl,szl (by omega),(by show 2≤sizeLine;decide),fun p4 hp4=>?_⟩
  have g7:=ϖg hp4 (.tup [V.ref rb,V.str (y++w2)])
  have e7:=ϖc (H:=H6) (a:=p4) (o:=.tup [V.ref rb,V.str (y++w2)])
  have g57:=g56.trans g7
  have ez7:=g7 _ _ ez6
  have hz7:=ϖb (fun _ _=>MkP.mono g7) hz6
  generalize upd H6 p4 (.tup [V.ref rb,V.str (y++w2)])=H7 at g7 e7 g57 ez7 hz7⊢
  have hlj7:∀b:Addr,∀xs:List V,H7 b=some (.tup xs)→upd H7 lj (.lst (zs++[V.ref p4])) b=some (.tup xs):=fun b xs hb=>by
   rw[ϖp (fun z=>by rw[z,ez7] at hb;cases hb)];exact hb
  refine⟨lj,zs,.ref p4,rfl,rfl,ez7,szl' (by omega),ϖC g57 hlj,hil,⟨_,_,rfl⟩,zs++[.ref p4],ϖc,?_⟩
  rw[ϖA hp,List.filterMap_append,List.filterMap_cons,hej,hl2]
  have gt:=ϱG ez7 (.lst (zs++[V.ref p4]))
  exact ϖo (ϖb (fun _ _ ⟨b,c,z0,z1,z2⟩=>⟨b,c,z0,gt.seqT z1,hlj7 _ _ z2⟩) hz7) (.cons ⟨p4,rb,rfl,gt.seqT (SqT.of e7),hlj7 _ _ ((g13.trans g57) _ _ hrb)⟩ .nil)
 rintro σ H5 ⟨g5,_,⟨x7,x8,rfl⟩,zs,ez,hz⟩
 rw[← hyp.length,List.take_length] at hz
 exact⟨_,rfl,q lj _ (g13.trans g5) (g13.free hlj) ⟨zs,ez,hz⟩⟩
theorem sc_joined_behind:FnScope ["one","other","begins","steps_by_pair","steps","pair","ends"] ["one","other"] (ϖj ϖ_):=⟨rfl,rfl,rfl,by decide +kernel,rfl,by decide +kernel,by decide +kernel⟩
theorem ϱt (B:Bi mg) {ϖe ϖi:Addr} (XB:Xb K mg ϖe ϖi) (ϑA:Cal1 P w K mg base "refuse_choices" ["scribe"] 3 (ϱ5 K ϖe)) (ϑD:Cal1 P w K mg base "refuse_many_pairs" ["one","other"] 1 (ϵJ K ϖi)) (ϕk:Cal P w K mg base "joined_begins" ["one","other"] 2 (spJB K)) (ϑi:Cal P w K mg base "joined_steps_by_pair" ["one","other","begins"] 3 (spJP K)) (ϕK:Cal P w K mg base "joined_ends" ["one","other","pairs"] 2 (spJE K)) (ϕ8:Cal P w K mg base "trimmed_of" ["scribe"] 5 (ϡE K)) {f:Addr}{fd:FuncData} (F:Fun K "joined_behind" "joined_behind" ϖ_ f fd):FnOk P w K mg base (CX1 P w) 6 f fd ["one","other"] (ϝj K ϖe ϖi):=by
 refine Fun.ok1 F sc_joined_behind (fun vs H Q E h=>?_) (fun cdv A outer s H vs Q E hr h=>?_)
 ·obtain⟨v,s,pb,ps,pe,w,u,qb,qs,qe,rfl,_⟩:=h;rfl
 obtain⟨v,s,pb,ps,pe,w,u,qb,qs,qe,rfl,hV,hU,jk,p63,nm,qa,qb_,qc,q⟩:=h
 refine⟨_,(ϖd (ϑ6 (ϲ1 ϑA hr (by decide:3≤5) (by rfl) ϡx (ϖa (pv 0) ϖf)))
   (ϖd (ϑ6 (ϲ1 ϑA hr (by decide:3≤5) (by rfl) ϡx (ϖa (pv 1) ϖf)))
   (ϖd (ϑ6 (ϲ1 ϑD hr (by decide:1≤5) (by rfl) ϡx (ϖa (pv 0) (ϖa (pv 1) ϖf))))
   (ϖd (ϖn (i:=2) sc_joined_behind.nd rfl (Or.inl rfl) (ϖM ϕk hr (by decide:2≤5) (by rfl) (ϖa (pv 0) (ϖa (pv 1) ϖf))))
   (ϖd (ϖn (i:=3) sc_joined_behind.nd rfl (Or.inl rfl) (ϖM ϑi hr (by decide:3≤5) (by rfl) (ϖa (pv 0) (ϖa (pv 1) (ϖa (pv 2) ϖf)))))
   (ϖd (ϖn (i:=4) sc_joined_behind.nd rfl (Or.inl rfl) (ϖV ϖf))
   (ϖd (ϑs own_on (by rfl) (ϟe (pv 3)) (ϖm (i:=5) sc_joined_behind.nd rfl (Or.inl rfl)) (ϖk (ϑ6 (kPE (K:=K) (fun k=>tBM k _ _ _ _) (ϰB PySem.F.plainAttrs_list PySem.F.slot_list_extend PySem.F.type_list_extend ϲn (pv 4) (ϖa (hs:=ϖQ) (ϕM (ϑT hr) (pv 3) (pv 5) (by intro _ _;rfl)) ϖf))))))
   (ϖd (ϖn (i:=6) sc_joined_behind.nd rfl (Or.inl rfl) (ϖM ϕK hr (by decide:2≤5) (by rfl) (ϖa (pv 0) (ϖa (pv 1) (ϖa (hs:=ϕj) (ϑy (ϲ9 (by rfl)) (by rfl) B.list ϱb (ϖa (pv 3) ϖf)) ϖf)))))
   (ϖk (ϖE (ϖM ϕ8 hr (by decide:5≤5) (by rfl) (ϖa (hs:=ϲo) (ϑl (ϖa (hs:=ϖQ) (ϖq (kIx (K:=K) rIxT ϖl) (pv 0) (ϖw (by rfl) B.SIGNS) (by intro _ _;rfl)) (ϖa (hs:=ϱj) (ϖt ϕu (ϖq (kIx (K:=K) rIxT ϖl) (pv 0) (ϖw (by rfl) B.ROOMS) (by intro _ _;rfl)) (ϖq (kIx (K:=K) rIxT ϖl) (pv 1) (ϖw (by rfl) B.ROOMS) (by intro _ _;rfl))) (ϖa (pv 2) (ϖa (pv 4) (ϖa (pv 6) ϖf)))))) ϖf)))))))))))),?_⟩
 have l1:=jk.l1
 have l2:=jk.l2
 have l3:=jk.os.le
 have l4:=jk.ou.le
 refine⟨_,rfl,v,s,pb,ps,pe,rfl,hV.v,by omega,l3,fun hp1 H1 g1=>?_,fun hp1 H1 g1=>qa hp1 H1 g1⟩
 refine⟨_,rfl,w,u,qb,qs,qe,rfl,hU.v.mono g1,by omega,l4,fun hp2 H2 g2=>?_,fun hp2 H2 g2=>qb_ hp1 hp2 H2 (g1.trans g2)⟩
 have g12:=g1.trans g2
 refine⟨_,rfl,_,rfl,v,s,pb,ps,pe,w,u,qb,qs,qe,rfl,hV.v.mono g12,hU.v.mono g12,nm,fun h200=>?_,fun hc=>qc hp1 hp2 hc H2 g12⟩
 replace q:=q hp1 hp2 h200
 refine⟨_,rfl,_,rfl,v,s,pb,ps,pe,w,u,qb,qs,qe,rfl,hV.v.mono g12,hU.v.mono g12,jk,fun lB H3 g3 hlB wB=>?_⟩
 have g13:=g12.trans g3
 refine⟨_,rfl,_,rfl,_,rfl,v,s,pb,ps,pe,w,u,qb,qs,qe,lB,rfl,hV.v.mono g13,hU.v.mono g13,jk,h200,wB,ϛY jk,fun d H4 P k g4 hd hk hPk ji hJ=>?_⟩
 rw[← ϵC hk] at hPk
 subst hPk
 have g14:=g13.trans g4
 have hpl:=ji.len h200
 obtain⟨kvs,ed,hJ⟩:=hJ
 refine⟨szl (by simp),fun lS hlS=>?_⟩
 have g5:=ϖg hlS (.lst [])
 have e5:=ϖc (H:=H4) (a:=lS) (o:=.lst [])
 have hSd:lS≠d:=(ϖs ed hlS).symm
 have hJ5:Paired (JV K (upd H4 lS (.lst [])) s u lS) (ϑC s u) kvs:=ϖb (fun _ _=>JV.lift (GT.of g5) (fun b xs z=>g5 _ _ z) (fun l xs z=>g5 _ _ z) (fun l xs z=>ϖs z hlS)) hJ
 have ed5:=g5 _ _ ed
 have g15:=g14.trans g5
 have hlS0:H lS=none:=g14.free hlS
 generalize upd H4 lS (.lst [])=H5 at g5 e5 hJ5 ed5 g15⊢
 refine⟨_,rfl,d,kvs,rfl,ed5,fun o=>?_⟩
 have hd0:H d=none:=g13.free hd
 have ts6:=ϲx ed5 (fun _ z=>nomatch z) (.frz o (.dT kvs))
 have gt6:=ϕD ed5 (fun _ z=>nomatch z) (fun _ _ z=>nomatch z) (.frz o (.dT kvs))
 have hl6:∀l xs,H5 l=some (.lst xs)→upd H5 d (.frz o (.dT kvs)) l=some (.lst xs):=fun l xs z=>by
  rw[ϖp (fun y=>by rw[y,ed5] at z;cases z)];exact z
 have hJ6:Paired (JV K (upd H5 d (.frz o (.dT kvs))) s u lS) (ϑC s u) kvs:=ϖb (fun _ _=>JV.upd ed5 (fun _ z=>nomatch z) (fun _ _ z=>nomatch z) (.inr fun _ z=>nomatch z)) hJ5
 have e6:=hl6 _ _ e5
 have ed6:=ϖc (H:=H5) (a:=d) (o:=.frz o (.dT kvs))
 have g16:=ϖC (o:=.frz o (.dT kvs)) g15 hd0
 obtain⟨xB,eB,hB⟩:=(wB.mono g4).mono g5
 have eB:=hl6 _ _ eB
 have hB:=ϖb (fun (_:Mk) (_:V) (⟨b,c,z0,z1,z2⟩:MkP (jN u) K H5 _ _)=>(⟨b,c,z0,gt6.seqT z1,ts6 _ _ z2⟩:MkP (jN u) K (upd H5 d (.frz o (.dT kvs))) _ _)) hB
 have hBS:lB≠lS:=fun z=>by
  obtain⟨x,ex,_⟩:=wB
  have:=g4 _ _ ex
  rw[z,hlS] at this;cases this
 generalize upd H5 d (.frz o (.dT kvs))=H6 at hJ6 e6 ed6 g16 eB hB⊢
 refine ϝL (kvs:=kvs) (fun i σ H'=>(∃ x,σ=[some v,some w,some (.ref lB),some (.ref d),some (.ref lS),x,none])∧Same H H'∧i≤kvs.length∧H' d=some (.frz o (.dT kvs))∧MkPW (jN u) K H' lB (jB s u)∧Paired (JV K H' s u lS) (ϑC s u) kvs∧∃zs,H' lS=some (.lst zs)∧Paired (StP (jN u) K H') (((ϑC s u).take i).flatMap (jS s u)) zs)
  ⟨⟨_,rfl⟩,g16,Nat.zero_le _,ed6,⟨xB,eB,hB⟩,hJ6,[],e6,.nil⟩ (fun i σ H' _ z=>z.2.2.2.1) ?_ ?_
 ·rintro i ky y b σ H7 hkv ⟨⟨x,rfl⟩,g7,hi,ed7,⟨xB,eB,hB⟩,hJ7,zs,ez,hz⟩ hb
  obtain⟨p,hp,hE,_⟩:=ϖr hJ7 hkv
  have hE:ky=keyR (jN u) p:=hE
  subst hE
  have hil:i < kvs.length:=(List.getElem?_eq_some_iff.mp hkv).1
  obtain⟨l,hvl,_,zl,ezl,hzl⟩:=ϲ2 hJ7 (List.mem_of_getElem? hp)
  refine⟨_,rfl,.inl ⟨rfl,_,SqL.of ez⟩,_,rfl,_,rfl,d,_,rfl,.inr ⟨kvs,keyR (jN u) p,b,.inr ⟨o,ed7⟩,rfl,hb,hvl.symm⟩,?_⟩
  have hzlen:zs.length≤99*999:=by
   have a1:=ϱA s u jk.l1 ((ϑC s u).take i)
   rw[List.length_take] at a1
   rw[← hz.length]
   omega
  have hl3:zl.length≤99:=by rw[← hzl.length];exact Nat.le_trans (ϟs s u p) jk.l1
  refine⟨lS,l,zs,zl,rfl,rfl,ez,ezl,Nat.le_of_lt (szl' (by omega)),?_⟩
  have ts:=ϲx ez (fun _ z=>nomatch z) (.lst (zs++zl))
  have gt:=ϱG ez (.lst (zs++zl))
  refine⟨⟨_,rfl⟩,ϖC g7 hlS0,hil,(ϖp hSd.symm).trans ed7,⟨xB,(ϖp hBS).trans eB,ϖb (fun _ _ ⟨b,c,z0,z1,z2⟩=>⟨b,c,z0,gt.seqT z1,ts _ _ z2⟩) hB⟩,ϖb (fun _ _=>JV.upd ez (fun _ z=>nomatch z) (fun _ _ z=>nomatch z) (.inl rfl)) hJ7,zs++zl,ϖc,?_⟩
  rw[ϖA hp,List.flatMap_append,List.flatMap_singleton]
  exact ϖo (ϖb (fun _ _=>StP.ts gt ts) hz) (ϖb (fun _ _=>StP.ts gt ts) hzl)
 rintro σ H7 ⟨⟨x,rfl⟩,g7,_,ed7,wB7,hJ7,zs,ez,hz⟩
 rw[← hJ7.length,List.take_length] at hz
 refine⟨_,rfl,_,rfl,_,rfl,d,o,kvs,rfl,ed7,fun bs lp hbs hlp=>?_⟩
 have hrm:=ϟr hJ7 hbs
 have g8:=ϖg hlp (.lst (bs.map V.ref))
 have e8:=ϖc (H:=H7) (a:=lp) (o:=.lst (bs.map V.ref))
 have hrm:=ϖb (fun _ _=>RmV.mono g8) hrm
 generalize bs.map V.ref=yp at g8 e8 hrm⊢
 generalize upd H7 lp (.lst yp)=H8 at g8 e8 hrm⊢
 have g78:=g7.trans g8
 refine⟨v,s,pb,ps,pe,w,u,qb,qs,qe,lp,yp,ϑC s u,rfl,hV.same g78,hU.same g78,jk,e8,hrm,by omega,fun lE H9 g9 hlE wE=>?_⟩
 have g79:=g78.trans g9
 have G:=g8.trans g9
 obtain⟨a,xb,xs,xe,rfl,h1,_⟩:=id hV
 obtain⟨b,yb,ys,ye,rfl,k1,_⟩:=id hU
 refine⟨_,rfl,_,_,_,_,rfl,rfl,Same.seqT g79 h1,rfl,_,rfl,_,_,_,_,rfl,rfl,Same.seqT g79 h1,rfl,_,rfl,_,_,_,_,rfl,rfl,Same.seqT g79 k1,rfl,_,_,rfl,rfl,.inl ⟨by have:=nm.1;omega,by have:=nm.2;omega⟩,_,rfl,_,rfl,_,rfl,(by show 5≤sizeLine;decide),fun t ht=>?_⟩
 have gt:=ϖg ht (.tup [V.str s.signs,V.int (s.rooms*u.rooms),V.ref lB,V.ref lS,V.ref lE])
 have et:=ϖc (H:=H9) (a:=t) (o:=.tup [V.str s.signs,V.int (s.rooms*u.rooms),V.ref lB,V.ref lS,V.ref lE])
 have g10:=g79.trans gt
 have G10:=G.trans gt
 obtain⟨xB9,eB9,hB9⟩:=wB7.mono G10
 obtain⟨xE9,eE9,hE9⟩:=wE.mono gt
 have ez9:=G10 _ _ ez
 have hz9:=ϖb (fun _ _=>StP.mono G10) hz
 generalize upd H9 t (.tup [V.str s.signs,V.int (s.rooms*u.rooms),V.ref lB,V.ref lS,V.ref lE])=H10 at gt et g10 G10 eB9 hB9 eE9 hE9 ez9 hz9⊢
 refine⟨jN u,.ref t,ϑ2 s u,lB,lS,lE,rfl,jN_pos u,⟨t,xB9,zs,xE9,rfl,SqT.of et,SqL.of eB9,SqL.of ez9,SqL.of eE9,hB9,hz9,hE9⟩,ϟi jk h200 ji,p63,fun v' H' pb' ps' pe' g' hN ap=>?_⟩
 exact q v' H' pb' ps' pe' k (g10.trans g') hk ji hN ⟨g10.free ap.nb,g10.free ap.ns,g10.free ap.ne,ap.bs,ap.be,ap.se⟩
theorem ϵi:FnScope ["_law_script","_law_k"] ["_law_script","_law_k"] (ϖj ϑq):=⟨rfl,rfl,rfl,by decide +kernel,rfl,by decide +kernel,by decide +kernel⟩
theorem ϵe (B:Bi mg) {ϖe ϖi:Addr} (XB:Xb K mg ϖe ϖi)  {f:Addr}{fd:FuncData} (F:Fun K "_law_cell_at" "_law_cell_at" ϑq f fd):FnOk P w K mg base CX0 1 f fd ["_law_script","_law_k"] (ϵA K):=by
 refine F.ok ϵi (fun vs H Q E h=>?_) (fun cdv A outer s H vs Q E hr h=>?_)
 ·obtain⟨a,ns,k,rfl,_⟩:=h;rfl
 obtain⟨a,ns,k,rfl,hS,hk,q⟩:=h
 refine⟨_,(ϖd (ϑm (ϖx op_lt (pv 1) (ϖy (kLen (K:=K)) (by rfl) B.len ϑk (ϖa (pv 0) ϖf)) (ϖH _)) (ϖk (ϖE (ϖq (kIx (K:=K) rIxL ϑj) (pv 0) (pv 1) (by intro _ _;rfl)))) ϖG)
   (ϖk (ϖE ϖh))),?_⟩
 refine⟨_,rfl,_,rfl,a,_,rfl,.inl hS,_,_,rfl,rfl,_,rfl,?_⟩
 rw[List.length_map]
 refine ϑ8 (fun c=>?_) (fun c=>?_)
 ·obtain⟨v,h1,h2⟩:=at_some (xs:=ns) hk c
  refine⟨_,rfl,_,rfl,a,_,_,.int v,rfl,rfl,hS,?_,?_⟩
  ·obtain⟨j,rfl⟩:=Int.eq_ofNat_of_zero_le hk
   exact ϖ9 (by rw[List.getElem?_map];rw[Int.toNat_natCast] at h2;rw[h2];rfl)
  ·have e:ϵx ns k=v:=by unfold ϵx;rw[if_pos c,h2];rfl
   rw[← e];exact q
 ·have e:ϵx ns k=0:=by unfold ϵx;rw[if_neg c]
  rw[e] at q
  exact q
theorem ϲR:FnScope ["_law_found"] ["_law_found"] (ϖj ϑS):=⟨rfl,rfl,rfl,by decide +kernel,rfl,by decide +kernel,by decide +kernel⟩
theorem ϲG (B:Bi mg) {ϖe ϖi:Addr} (XB:Xb K mg ϖe ϖi)  {f:Addr}{fd:FuncData} (F:Fun K "_law_whole" "_law_whole" ϑS f fd):FnOk P w K mg base CX0 1 f fd ["_law_found"] (ϵQ K):=by
 refine F.ok ϲR (fun vs H Q E h=>?_) (fun cdv A outer s H vs Q E hr h=>?_)
 ·obtain⟨i,rfl,_⟩:=h;rfl
 obtain⟨i,rfl,q⟩:=h
 refine⟨_,(ϖk (ϖE (ϝn (ϖy (ϰ2 (K:=K) rIs ϕL) (by rfl) B.isinstance ϑd (ϖa (pv 0) (ϖa (ϡD (by rfl) B.int bt_int) ϖf))) (ϝe (pe_not (ϖy (ϰ2 (K:=K) rIs ϕL) (by rfl) B.isinstance ϑd (ϖa (pv 0) (ϖa (ϡD (by rfl) B.bool bt_bool) ϖf)))))))),?_⟩
 refine⟨_,rfl,_,"int",_,_,rfl,TyOf.int _,is_int,_,rfl,iteT ?_⟩
 exact⟨_,rfl,_,"bool",_,_,rfl,TyOf.int _,is_intb,_,rfl,q⟩
theorem sc_law_mixed:FnScope ["_law_cell","_law_k","_law_number"] ["_law_cell","_law_k"] (ϖj ϑ0):=⟨rfl,rfl,rfl,by decide +kernel,rfl,by decide +kernel,by decide +kernel⟩
theorem ϲi (B:Bi mg) {ϖe ϖi:Addr} (XB:Xb K mg ϖe ϖi)  {f:Addr}{fd:FuncData} (F:Fun K "_law_mixed" "_law_mixed" ϑ0 f fd):FnOk P w K mg base CX0 1 f fd ["_law_cell","_law_k"] (ϱk):=by
 refine F.ok sc_law_mixed (fun vs H Q E h=>?_) (fun cdv A outer s H vs Q E hr h=>?_)
 ·obtain⟨c,k,rfl,_⟩:=h;rfl
 obtain⟨c,k,rfl,q⟩:=h
 refine⟨_,(ϖd (ϖn (i:=2) sc_law_mixed.nd rfl (Or.inl rfl) (ϕF (ϖt ϑf (ϖt ϑP (ϖt ϑP (ϖt ϕu (ϖt ϑf (pv 0) ϖh) ϖh) (ϖt ϕu (pv 1) ϖh)) ϖh) ϖh)))
   (ϖd (ϖn (i:=2) sc_law_mixed.nd rfl (Or.inl rfl) (ϕF (ϖt ϑf (ϖt ϕu (pv 2) (pv 2)) ϖh)))
   (ϖk (ϖE (ϖt ϑf (ϖt ϕu (pv 2) (pv 2)) ϖh))))),?_⟩
 refine⟨fun v H'=>H=H'∧ϟH 0 2147483647 v,⟨_,rfl,_,_,rfl,rfl,pz,_,_,rfl,rfl,.inr ⟨by decide,by decide⟩,_,rfl,_,_,rfl,rfl,.inr ⟨by decide,by decide⟩,_,_,rfl,rfl,_,_,rfl,rfl,_,_,rfl,rfl,pz,rfl,_,rfl,by omega,by omega⟩,?_⟩
 rintro _ _ ⟨rfl,n,rfl,h0,h1⟩
 refine⟨fun v H'=>H=H'∧ϟH 0 2147483647 v,⟨_,rfl,_,rfl,_,_,rfl,rfl,.inl ⟨by omega,by omega⟩,_,_,rfl,rfl,pz,rfl,_,rfl,by omega,by omega⟩,?_⟩
 rintro _ _ ⟨rfl,m,rfl,h2,h3⟩
 exact⟨_,rfl,_,rfl,_,_,rfl,rfl,.inl ⟨by omega,by omega⟩,_,_,rfl,rfl,pz,q _ (Int.emod_nonneg _ (by decide)) (Int.emod_lt_of_pos _ (by decide))⟩
theorem sc_law_word:FnScope ["_law_rest_here","_law_letters","_law_size","_law_word_here","_law_k"] ["_law_rest_here"] (ϖj ϕe):=⟨rfl,rfl,rfl,by decide +kernel,rfl,by decide +kernel,by decide +kernel⟩
theorem ϡq (B:Bi mg) {ϖe ϖi:Addr} (XB:Xb K mg ϖe ϖi)  {f:Addr}{fd:FuncData} (F:Fun K "_law_word" "_law_word" ϕe f fd):FnOk P w K mg base CX0 1 f fd ["_law_rest_here"] (ϝa):=by
 refine F.ok sc_law_word (fun vs H Q E h=>?_) (fun cdv A outer s H vs Q E hr h=>?_)
 ·obtain⟨a,rfl,_⟩:=h;rfl
 obtain⟨c,rfl,q⟩:=h
 refine⟨_,(ϖd (ϖn (i:=1) sc_law_word.nd rfl (Or.inl rfl) (ϖq (kIx (K:=K) ϝE ϵ2) (ϖV (ϖa ϑ3 (ϖa ϑ3 (ϖa ϑ3 ϖf)))) (ϖt ϑf (pv 0) ϖh) (by intro _ _;rfl)))
   (ϖd (ϖn (i:=2) sc_law_word.nd rfl (Or.inl rfl) (ϖq (kIx (K:=K) ϝE ϵ2) (ϖV (ϖa ϖh (ϖa ϖh (ϖa ϖh (ϖa ϖh (ϖa ϖh (ϖa ϖh ϖf))))))) (ϖt ϑf (ϖt ϖX (pv 0) ϖh) ϖh) (by intro _ _;rfl)))
   (ϵa (ϑm (ϖx ϰ4 (ϖt ϑf (ϖt ϖX (pv 0) ϖh) ϖh) ϖh (ϖH _)) (ϖd (ϖn (i:=2) sc_law_word.nd rfl (Or.inl rfl) (ϖt ϑf (ϖt ϖX (pv 0) ϖh) ϖh))
   (ϖk (ϖn (i:=0) sc_law_word.nd rfl (Or.inl rfl) (ϖt ϖX (pv 0) ϖh)))) ϖG)
   (ϖd (ϖn (i:=0) sc_law_word.nd rfl (Or.inl rfl) (ϖt ϖX (pv 0) ϖh))
   (ϖd (ϖn (i:=3) sc_law_word.nd rfl (Or.inl rfl) ϑ3)
   (ϖd (ϑs PassesOwn.never (by rfl) (ϰG (by rfl) B.range (ϖa (pv 2) ϖf)) (ϖm (i:=4) sc_law_word.nd rfl (Or.inl rfl)) (ϖd (ϖn (i:=3) sc_law_word.nd rfl (Or.inl rfl) (ϖt ϑY (pv 3) (ϖq ϟp (pv 1) (ϖt ϑf (ϖt ϑP (pv 0) (ϖt ϕu (pv 4) (pv 4))) (ϖy ϑn (by rfl) B.len ϑk (ϖa (pv 1) ϖf))) (by intro _ _;rfl))))
   (ϖk (ϖn (i:=0) sc_law_word.nd rfl (Or.inl rfl) (ϖt ϖX (pv 0) (ϖy ϑn (by rfl) B.len ϑk (ϖa (pv 1) ϖf)))))))
   (ϖk (ϖE (pv 3))))))))),?_⟩
 refine⟨szl (by simp),fun p hp=>⟨_,rfl,_,_,rfl,rfl,pz,p,_,_,rfl,rfl,SqL.of ϖc,by omega,(by show c % 3 < 3;omega),isLet,?_,?_⟩⟩
 ·intro v hv
  simp only[List.mem_cons,List.not_mem_nil,or_false] at hv
  rcases hv with rfl|rfl|rfl<;>exact⟨_,rfl,by decide +kernel,by decide +kernel,by decide +kernel⟩
 rintro _⟨z,rfl,hz1,hz2,hzl⟩
 have g1:=ϖg hp (.lst [V.str "ab",V.str "a",V.str "abcdefghijklmnopqrstuvwxyz"])
 generalize upd H p (.lst [V.str "ab",V.str "a",V.str "abcdefghijklmnopqrstuvwxyz"])=H1 at g1⊢
 refine⟨szl (by simp),fun p2 hp2=>⟨_,rfl,_,_,rfl,rfl,⟨by decide,by decide⟩,_,_,rfl,rfl,pz,p2,_,_,rfl,rfl,SqL.of ϖc,by omega,(by show c / 3 % 6 < 6;omega),ϟH 0 4,?_,?_⟩⟩
 ·intro v hv
  simp only[List.mem_cons,List.not_mem_nil,or_false] at hv
  rcases hv with rfl|rfl|rfl|rfl|rfl|rfl<;>exact⟨_,rfl,by decide,by decide⟩
 rintro _⟨n,rfl,hn0,hn4⟩
 have g2:=g1.trans (ϖg hp2 (.lst [V.int 0,V.int 1,V.int 1,V.int 2,V.int 3,V.int 4]))
 generalize upd H1 p2 (.lst [V.int 0,V.int 1,V.int 1,V.int 2,V.int 3,V.int 4])=H2 at g2⊢
 refine⟨fun σ H'=>H2=H'∧∃n r:Int,0≤n∧n≤40∧σ=[some (.int r),some (.str z),some (.int n),none,none],?_,?_⟩
 ·refine⟨_,rfl,_,_,rfl,rfl,⟨by decide,by decide⟩,_,_,rfl,rfl,pz,rfl,_,rfl,ϑ8 (fun _=>?_) (fun _=>⟨rfl,n,c,hn0,by omega,rfl⟩)⟩
  refine⟨_,rfl,_,_,rfl,rfl,⟨by decide,by decide⟩,_,_,rfl,rfl,pz,?_⟩
  refine⟨_,rfl,_,_,rfl,rfl,⟨by decide,by decide⟩,?_⟩
  exact⟨rfl,c / 216 % 41,_,by omega,by omega,rfl⟩
 rintro σ H' ⟨rfl,n,r,h0,h1,rfl⟩
 refine⟨_,rfl,_,_,rfl,rfl,⟨by decide,by decide⟩,?_⟩
 refine⟨_,rfl,_,rfl,by omega,by omega,?_⟩
 let Iv_1:Nat→L2.St→Hp→Prop:=(fun i σ H'=>H2=H'∧∃(r:Int) (x:Str) (y:Option V),x.length=i∧(∀ c∈cl x,97≤c∧c≤122)∧σ=[some (.int r),some (.str z),some (.int n),some (.str x),y])
 refine ϕc Iv_1 ⟨rfl,_,"",_,rfl,cl_nil,rfl⟩ (fun b_ r_ hb_ hr_=>?_) ?_
 ·rintro i σ H' hi ⟨rfl,r2,x,y,hx,hxl,rfl⟩
  have hzp:(0:Int) < z.length∧(z.length:Int) < 1073741824:=by omega
  obtain⟨c',hc,hm⟩:=ϡ9 (xs:=cl z) (i:=(r2+(0+(i:Int))*(0+(i:Int))) % (z.length:Int)) (Int.emod_nonneg _ (by omega)) (by rw[ϖ6];exact Int.emod_lt_of_pos _ hzp.1)
  refine⟨_,rfl,_,rfl,_,rfl,_,rfl,_,rfl,_,_,rfl,rfl,.inl ⟨by omega,by omega⟩,_,_,rfl,rfl,_,rfl,z,rfl,szl (by omega),_,_,rfl,rfl,hzp.1,z,_,c',rfl,rfl,szl (by omega),hc,_,_,rfl,rfl,szl (by rw[hx,ϡl];omega),?_⟩
  refine⟨_,rfl,_,rfl,z,rfl,szl (by omega),_,_,rfl,rfl,hzp,?_⟩
  refine⟨rfl,_,_,_,?_,?_,rfl⟩
  ·rw[ϕz,hx];rfl
  ·intro c1 h1
   rw[ϖ5] at h1
   rcases List.mem_append.mp h1 with h1|h1
   ·exact hxl c1 h1
   ·rw[ϛ1,List.mem_singleton] at h1
    subst h1;exact hzl c1 hm
 ·rintro σ H' ⟨rfl,r2,x,y,hx,hxl,rfl⟩
  refine⟨_,rfl,?_⟩
  exact q x _ ⟨by omega,hxl⟩ g2
theorem sc_law_signs:FnScope ["_law_number","_law_letters","_law_many"] ["_law_number"] (ϖj ϑZ):=⟨rfl,rfl,rfl,by decide +kernel,rfl,by decide +kernel,by decide +kernel⟩
theorem ϲA (B:Bi mg) {ϖe ϖi:Addr} (XB:Xb K mg ϖe ϖi)  {f:Addr}{fd:FuncData} (F:Fun K "_law_signs" "_law_signs" ϑZ f fd):FnOk P w K mg base CX0 1 f fd ["_law_number"] (ϵ4):=by
 refine F.ok sc_law_signs (fun vs H Q E h=>?_) (fun cdv A outer s H vs Q E hr h=>?_)
 ·obtain⟨n,rfl,_⟩:=h;rfl
 obtain⟨m,rfl,q⟩:=h
 refine⟨_,(ϖd (ϖn (i:=1) sc_law_signs.nd rfl (Or.inr rfl) ϑ3)
   (ϖd (ϖn (i:=2) sc_law_signs.nd rfl (Or.inl rfl) (ϖq (kIx (K:=K) ϝE ϵ2) (ϖV (ϖa ϖh (ϖa ϖh (ϖa ϖh (ϖa ϖh (ϖa ϖh ϖf)))))) (ϖt ϑf (ϖt ϖX (pv 0) ϖh) ϖh) (by intro _ _;rfl)))
   (ϖk (ϖE (kPE (K:=K) (fun k=>tBM k _ _ _ _) (ϰB PySem.F.plainAttrs_str PySem.F.slot_str_join PySem.F.type_str_join ϝq ϑ3 (ϖa (ϑR rfl (ϑx (N':=["_law_k","_law_letters","_law_number"]) (js:=[none,some 1,some 0]) rfl (by decide +kernel) rfl (by decide +kernel) rfl rfl) (ϰG (by rfl) B.range (ϖa (pv 2) ϖf)) (fun _ _ _ _ _=>(ϖm (i:=0) (show List.Nodup (["_law_k","_law_letters","_law_number"]:List Str) by decide +kernel) rfl (Or.inl rfl))) (fun _ _ _ _ _=>ϕs) (fun _ _ _ _ _=>(ϖq ϟp (pv 1) (ϖt ϑf (ϖt ϑP (pv 2) (ϖt ϕu ϖh (pv 0))) ϖh) (by intro _ _;rfl)))) ϖf))))))),?_⟩
 refine⟨szl (by simp),fun p hp=>⟨_,rfl,_,_,rfl,rfl,⟨by decide,by decide⟩,_,_,rfl,rfl,pz,p,_,_,rfl,rfl,SqL.of ϖc,by omega,(by show m / 26 % 5 < 5;omega),ϟH 1 5,?_,?_⟩⟩
 ·intro v hv
  simp only[List.mem_cons,List.not_mem_nil,or_false] at hv
  rcases hv with rfl|rfl|rfl|rfl|rfl<;>exact⟨_,rfl,by decide,by decide⟩
 rintro _⟨n,rfl,hn1,hn5⟩
 have g1:=ϖg hp (.lst [V.int 1,V.int 2,V.int 2,V.int 3,V.int 5])
 generalize upd H p (.lst [V.int 1,V.int 2,V.int 2,V.int 3,V.int 5])=H1 at g1⊢
 obtain⟨k,rfl⟩:=Int.eq_ofNat_of_zero_le (show 0≤n by omega)
 refine⟨rfl,_,rfl,_,rfl,by omega,by omega,?_⟩
 refine ϟN (fun i ys τ H'=>H1=H'∧(∃ x,τ=[x,some (.str "abcdefghijklmnopqrstuvwxyz"),some (.int m)])∧i≤5∧ys=((List.range i).map (sgC m)).map fun c=>V.str ⟨#[c]⟩) ⟨rfl,⟨_,rfl⟩,Nat.zero_le _,rfl⟩ ?_ ?_
 ·rintro i ys τ _ hi ⟨rfl,⟨x,rfl⟩,h5,rfl⟩
  have hj0:=Int.emod_nonneg (m+7*(0+(i:Int))) (show(26:Int)≠0 by decide)
  have hj1:=Int.emod_lt_of_pos (m+7*(0+(i:Int))) (show(0:Int) < 26 by decide)
  refine⟨_,rfl,_,rfl,_,rfl,_,_,rfl,rfl,.inl ⟨by decide,by decide⟩,_,_,rfl,rfl,_,_,rfl,rfl,pz,_,_,_,rfl,rfl,szl (by rw[abc_len];decide),abc_at hj0 hj1,szl' (by simp;omega),rfl,⟨_,rfl⟩,by omega,?_⟩
  rw[List.range_succ,List.map_append,List.map_append]
  unfold sgC
  rw[Int.zero_add]
  rfl
 rintro ys τ _ ⟨rfl,_,_,rfl⟩ p2 hp2
 have e:(((List.range (k:Int).toNat).map (sgC m)).map fun c=>V.str ⟨#[c]⟩)=(((List.range (k:Int).toNat).map (sgC m)).map fun c=>(⟨#[c]⟩:Str)).map V.str:=by rw[List.map_map,List.map_map,List.map_map];rfl
 refine⟨"",p2,((List.range (k:Int).toNat).map (sgC m)).map fun c=>(⟨#[c]⟩:Str),rfl,rfl,SqL.of (by rw[← e];exact ϖc),?_,?_⟩
 ·have h1:∀cs:List Nat,((cs.map fun c=>(⟨#[c]⟩:Str)).map (·.length)).sum=cs.length:=fun cs=>by
   induction cs with
   |nil=>rfl
   |cons c cs ih=>rw[List.map_cons,List.map_cons,List.sum_cons,ih,List.length_cons,ϡl];omega
  rw[h1]
  have e0:("":Str).length=0:=by decide +kernel
  simp[e0]
  omega
 ·rw[ϡ0]
  exact q _ _ (sg_ok m (by omega) (by omega)) (g1.trans (ϖg hp2 _))
theorem sc_law_rest:FnScope ["_law_script","_law_k","_law_salt","_law_cell","_law_big"] ["_law_script","_law_k","_law_salt"] (ϖj ϕd):=⟨rfl,rfl,rfl,by decide +kernel,rfl,by decide +kernel,by decide +kernel⟩
theorem ϡj (B:Bi mg) {ϖe ϖi:Addr} (XB:Xb K mg ϖe ϖi) (ϖz:Cal P w K mg base "_law_cell_at" ["_law_script","_law_k"] 1 (ϵA K)) (ϖJ:Cal P w K mg base "_law_mixed" ["_law_cell","_law_k"] 1 (ϱk)) {f:Addr}{fd:FuncData} (F:Fun K "_law_rest" "_law_rest" ϕd f fd):FnOk P w K mg base CX0 2 f fd ["_law_script","_law_k","_law_salt"] (ϛb K):=by
 refine F.ok sc_law_rest (fun vs H Q E h=>?_) (fun cdv A outer s H vs Q E hr h=>?_)
 ·obtain⟨a,ns,k,salt,rfl,_⟩:=h;rfl
 obtain⟨a,ns,k,salt,rfl,hS,hk,s0,s1,q⟩:=h
 refine⟨_,(ϖd (ϖn (i:=3) sc_law_rest.nd rfl (Or.inl rfl) (ϖM ϖz hr (by decide:1≤1) (by rfl) (ϖa (pv 0) (ϖa (pv 1) ϖf))))
   (ϖd (ϑm (ϖx ϰ4 (ϖt ϑf (ϖM ϖz hr (by decide:1≤1) (by rfl) (ϖa (pv 0) (ϖa ϖh ϖf))) ϖh) ϖh (ϖH _)) (ϖk (ϖE (ϖt ϛ9 (pv 3) (ϖt ϕu (ϖt ϖX (pv 2) ϖh) ϖh)))) ϖG)
   (ϖd (ϖn (i:=4) sc_law_rest.nd rfl (Or.inl rfl) (ϖt ϑP (ϖM ϖJ hr (by decide:1≤1) (by rfl) (ϖa (pv 3) (ϖa (hs:=ϱj) (ϖt ϑP (pv 1) (pv 2)) ϖf))) (ϖt ϕu (ϖM ϖJ hr (by decide:1≤1) (by rfl) (ϖa (pv 3) (ϖa (hs:=ϱj) (ϖt ϑP (ϖt ϑP (pv 1) (pv 2)) ϖh) ϖf))) ϖh)))
   (ϖk (ϖE (ϖt ϑP (pv 4) (ϖt ϕu (ϖt ϕu (ϖM ϖJ hr (by decide:1≤1) (by rfl) (ϖa (pv 3) (ϖa (hs:=ϱj) (ϖt ϑP (ϖt ϑP (pv 1) (pv 2)) ϖh) ϖf))) ϖh) ϖh))))))),?_⟩
 refine⟨_,rfl,_,rfl,a,ns,k,rfl,hS,hk,?_⟩
 generalize ϵx ns k=c
 refine⟨_,rfl,a,ns,0,rfl,hS,(by decide),_,_,rfl,rfl,pz,rfl,_,rfl,?_⟩
 refine ϑ8 (fun _=>?_) (fun _=>?_)
 ·exact⟨_,rfl,_,rfl,_,_,rfl,rfl,⟨by decide,by decide⟩,_,_,rfl,rfl,.inr ⟨by decide,by decide⟩,_,_,rfl,rfl,(by show 0≤salt / 2000*300;omega),q _⟩
 refine⟨_,rfl,_,rfl,_,rfl,_,_,rfl,rfl,_,_,rfl,fun n1 _ _=>?_⟩
 refine⟨_,rfl,_,rfl,_,rfl,_,_,rfl,rfl,_,_,rfl,rfl,_,_,rfl,fun n2 _ _=>⟨_,_,rfl,rfl,.inr ⟨by decide,by decide⟩,_,_,rfl,rfl,?_⟩⟩
 exact⟨_,rfl,_,rfl,_,rfl,_,rfl,_,_,rfl,rfl,_,_,rfl,rfl,_,_,rfl,fun n3 _ _=>⟨_,_,rfl,rfl,.inr ⟨by decide,by decide⟩,_,_,rfl,rfl,.inr ⟨by decide,by decide⟩,_,_,rfl,rfl,q _⟩⟩
theorem sc_law_plain:FnScope ["_law_script","_law_salt","_law_most","_law_signs_here","_law_rest_here","_law_rooms","_law_begins","_law_steps","_law_ends","_law_k","_law_room","_law_sign","_law_amid"] ["_law_script","_law_salt","_law_most","_law_signs_here"] (ϖj ϑU):=⟨rfl,rfl,rfl,by decide +kernel,rfl,by decide +kernel,by decide +kernel⟩
theorem ϲr (B:Bi mg) {ϖe ϖi:Addr} (XB:Xb K mg ϖe ϖi) (ϰd:Cal P w K mg base "_law_rest" ["_law_script","_law_k","_law_salt"] 2 (ϛb K)) (ϕG:Cal P w K mg base "_law_word" ["_law_rest_here"] 1 (ϝa)) {f:Addr}{fd:FuncData} (F:Fun K "_law_plain" "_law_plain" ϑU f fd):FnOk P w K mg base CX0 3 f fd ["_law_script","_law_salt","_law_most","_law_signs_here"] (ϡo K):=by
 refine F.ok sc_law_plain (fun vs H Q E h=>?_) (fun cdv A outer s H vs Q E hr h=>?_)
 ·obtain⟨a,ns,salt,most,g,rfl,_⟩:=h;rfl
 obtain⟨a,ns,salt,most,g,rfl,hS,h63,s0,s1,m0,m1,hg,q⟩:=h
 refine⟨_,(ϖd (ϖn (i:=4) sc_law_plain.nd rfl (Or.inl rfl) (ϕF (ϖt ϖX (ϖM ϰd hr (by decide:2≤2) (by rfl) (ϖa (pv 0) (ϖa ϖh (ϖa (pv 1) ϖf)))) ϖh)))
   (ϖd (ϖn (i:=5) sc_law_plain.nd rfl (Or.inl rfl) (ϕF (ϖt ϑf (pv 4) (ϖt ϑP (pv 2) ϖh))))
   (ϖd (ϖn (i:=4) sc_law_plain.nd rfl (Or.inl rfl) (ϕF (ϖt ϖX (pv 4) (ϖt ϑP (pv 2) ϖh))))
   (ϖd (ϖn (i:=6) sc_law_plain.nd rfl (Or.inl rfl) (ϖV ϖf))
   (ϵa (ϑm (PW.pt (ϱ6 (ϖx ϵl (pv 5) ϖh (ϖH _)) (ϰp (ϖx ϵl (ϖt ϑf (pv 4) ϖh) ϖh (ϖH _))))) (ϖk (ϖn (i:=6) sc_law_plain.nd rfl (Or.inl rfl) (ϖV (ϖa (hs:=ϲo) (ϑl (ϖa (hs:=ϱj) (ϖt ϑf (ϖt ϖX (pv 4) ϖh) (pv 5)) (ϖa (hs:=ϕj) (ϖM ϕG hr (by decide:1≤2) (by rfl) (ϖa (hs:=ϱj) (ϖt ϖX (ϖt ϖX (pv 4) ϖh) (pv 5)) ϖf)) ϖf))) ϖf)))) ϖG)
   (ϖd (ϖn (i:=7) sc_law_plain.nd rfl (Or.inl rfl) ϰa)
   (ϖd (ϖn (i:=8) sc_law_plain.nd rfl (Or.inl rfl) ϟk)
   (ϖd (ϑs PassesOwn.never (by rfl) (ϱR (by rfl) B.range (ϖa ϖh (ϖa (hs:=ϕj) (ϖy (ϟ7 (by rfl)) (by rfl) B.min bt_min (ϖa ϖh (ϖa (hs:=ϕj) (ϖy (kLen (K:=K)) (by rfl) B.len ϑk (ϖa (pv 0) ϖf)) ϖf))) ϖf))) (ϖm (i:=9) sc_law_plain.nd rfl (Or.inl rfl)) (ϖd (ϖn (i:=4) sc_law_plain.nd rfl (Or.inl rfl) (ϕF (ϖM ϰd hr (by decide:2≤2) (by rfl) (ϖa (pv 0) (ϖa (pv 9) (ϖa (pv 1) ϖf))))))
   (ϖd (ϖn (i:=10) sc_law_plain.nd rfl (Or.inl rfl) (ϕF (ϖt ϑf (ϖt ϖX (pv 4) ϖh) (ϖy (ϝ5 (by rfl)) (by rfl) B.max bt_max (ϖa (pv 5) (ϖa ϖh ϖf))))))
   (ϖk (ϑm (PW.pt (ϱ6 (ϖx ϵl (pv 5) ϖh (ϖH _)) (ϰp (ϖx ϰ4 (ϖt ϑf (pv 4) ϖh) ϖh (ϖH _))))) (ϖk (ϰW (ϑT hr) (pv 8) (pv 10) (ϖM ϕG hr (by decide:1≤2) (by rfl) (ϖa (hs:=ϱj) (ϖt ϖX (ϖt ϖX (pv 4) ϖh) (pv 5)) ϖf)) rfl)) (ϖk (ϑm (ϖx ϵl (pv 5) ϖh (ϖH _)) (ϖd (ϖn (i:=11) sc_law_plain.nd rfl (Or.inl rfl) (ϖq ϟp (pv 3) (ϖt ϑf (ϖt ϖX (ϖt ϖX (pv 4) ϖh) (pv 5)) (ϖy ϑn (by rfl) B.len ϑk (ϖa (pv 3) ϖf))) (by intro _ _;rfl)))
   (ϖd (ϖn (i:=4) sc_law_plain.nd rfl (Or.inl rfl) (ϕF (ϖt ϖX (ϖt ϖX (ϖt ϖX (pv 4) ϖh) (pv 5)) (ϖy ϑn (by rfl) B.len ϑk (ϖa (pv 3) ϖf)))))
   (ϖk (ϰW (ϑT hr) (pv 7) (ϑl (ϖa (pv 10) (ϖa (pv 11) ϖf))) (ϑl (ϖa (hs:=ϕj) (ϖM ϕG hr (by decide:1≤2) (by rfl) (ϖa (hs:=ϱj) (ϖt ϖX (pv 4) (pv 5)) ϖf)) (ϖa (hs:=ϱj) (ϖt ϑf (pv 4) (pv 5)) ϖf))) rfl)))) ϖG)))))))
   (ϖd (ϑF (i:=12) sc_law_plain.nd rfl (Or.inl rfl) (by rfl) (by rfl) (ϑx (N':=["_law_pair","_law_told"]) (js:=[none,none]) rfl (by decide +kernel) rfl (by decide +kernel) rfl rfl) (ϛO (pv 7)) (fun _ _ _ _ _=>(kPG (K:=K) (fun k=>gTup k 2 _) (ϕJ (n:=2) (by rfl) (ϖu (ϖm (i:=0) (show List.Nodup (["_law_pair","_law_told"]:List Str) by decide +kernel) rfl (Or.inl rfl)) (ϖu (ϖm (i:=1) (show List.Nodup (["_law_pair","_law_told"]:List Str) by decide +kernel) rfl (Or.inl rfl)) ϑV))))) (fun _ _ _ _ _=>ϕs) (fun _ _ _ _ _=>(ϑl (ϖa (hs:=ϖQ) (ϖq (kIx (K:=K) rIxT ϖl) (pv 0) ϖh (by intro _ _;rfl)) (ϖa (hs:=ϖQ) (ϖq (kIx (K:=K) rIxT ϖl) (pv 0) ϖh (by intro _ _;rfl)) (ϖa (hs:=ϖQ) (ϖq (kIx (K:=K) rIxT ϖl) (pv 1) ϖh (by intro _ _;rfl)) (ϖa (hs:=ϖQ) (ϖq (kIx (K:=K) rIxT ϖl) (pv 1) ϖh (by intro _ _;rfl)) ϖf)))))))
   (ϖk (ϖE (ϑl (ϖa (pv 3) (ϖa (pv 5) (ϖa (pv 6) (ϖa (pv 12) (ϖa (ϑR rfl (ϑx (N':=["_law_room","_law_word_here"]) (js:=[none,none]) rfl (by decide +kernel) rfl (by decide +kernel) rfl rfl) (ϛs (pv 8)) (fun _ _ _ _ _=>(kPG (K:=K) (fun k=>gTup k 2 _) (ϕJ (n:=2) (by rfl) (ϖu (ϖm (i:=0) (show List.Nodup (["_law_room","_law_word_here"]:List Str) by decide +kernel) rfl (Or.inl rfl)) (ϖu (ϖm (i:=1) (show List.Nodup (["_law_room","_law_word_here"]:List Str) by decide +kernel) rfl (Or.inl rfl)) ϑV))))) (fun _ _ _ _ _=>ϕs) (fun _ _ _ _ _=>(ϑl (ϖa (pv 0) (ϖa (pv 1) ϖf))))) ϖf))))))))))))))))),?_⟩
 refine⟨fun v H'=>H=H'∧∃n:Int,v=.int n,⟨_,rfl,_,rfl,a,ns,0,salt,rfl,hS,by decide,s0,s1,fun n=>⟨_,_,rfl,rfl,⟨by decide,by decide⟩,rfl,_,rfl⟩⟩,?_⟩
 rintro _ _ ⟨rfl,n0,rfl⟩
 obtain⟨hg1,hg2,hg3,hg4⟩:=hg
 refine⟨fun v H'=>H=H'∧ϟH 0 most v,⟨_,rfl,_,rfl,_,_,rfl,rfl,_,_,rfl,rfl,(by show 0 < most+1;omega),rfl,_,rfl,?_,?_⟩,?_⟩
 ·exact Int.emod_nonneg _ (by omega)
 ·have:=Int.emod_lt_of_pos n0 (show 0 < most+1 by omega)
  omega
 rintro _ _ ⟨rfl,r,rfl,hr0,hrm⟩
 have hr1:r≤14:=by omega
 have g1:Same H H:=Same.refl H
 refine⟨fun v H'=>H=H'∧∃n:Int,v=.int n,⟨_,rfl,_,rfl,_,_,rfl,rfl,_,_,rfl,rfl,⟨by omega,by omega⟩,rfl,_,rfl⟩,?_⟩
 rintro _ _ ⟨rfl,n1,rfl⟩
 refine⟨szl (by simp),fun pb0 hpb0=>?_⟩
 have gb0:=ϖg hpb0 (.lst [])
 have eb0:=ϖc (H:=H) (a:=pb0) (o:=.lst [])
 generalize upd H pb0 (.lst [])=H2 at gb0 eb0⊢
 refine⟨fun σ' H'=>∃(pb:Addr) (xb:List V) (B:List Mk),σ'=[some (.ref a),some (.int salt),some (.int most),some (.str g),some (.int n1),some (.int r),some (.ref pb),none,none,none,none,none,none]∧Same H H'∧H' pb=some (.lst xb)∧Paired (MkV K H') B xb∧B.length≤1∧∀m∈B,0≤m.1∧m.1 < r∧Wd m.2,?_,?_⟩
 ·have no:∃(pb:Addr) (xb:List V) (B:List Mk),[some (V.ref a),some (V.int salt),some (V.int most),some (V.str g),some (V.int n1),some (V.int r),some (V.ref pb0),none,none,none,none,none,none]=[some (.ref a),some (.int salt),some (.int most),some (.str g),some (.int n1),some (.int r),some (.ref pb),none,none,none,none,none,none]∧Same H H2∧H2 pb=some (.lst xb)∧Paired (MkV K H2) B xb∧B.length≤1∧∀m∈B,0≤m.1∧m.1 < r∧Wd m.2:=⟨pb0,[],[],rfl,gb0,eb0,.nil,by simp,by simp⟩
  refine⟨_,rfl,_,_,rfl,rfl,_,rfl,ϑ8 (fun hr=>?_) (fun _=>no)⟩
  have hrr:0 < r∧r < 1073741824:=⟨hr,by omega⟩
  refine⟨_,rfl,_,_,rfl,rfl,pz,_,_,rfl,rfl,_,rfl,ϑ8 (fun c=>?_) (fun _=>no)⟩
  refine⟨_,rfl,_,_,rfl,rfl,⟨by decide,by decide⟩,_,rfl,_,_,rfl,rfl,hr,_,rfl,_,_,rfl,rfl,⟨by decide,by decide⟩,_,rfl,_,_,rfl,rfl,hrr,_,rfl,fun wd H3 hwd g3=>⟨(by show 2≤sizeLine;decide),fun t ht=>⟨szl (by simp),fun pb hpb=>?_⟩⟩⟩
  have gt:=g3.trans (ϖg ht (.tup [V.int (n1 / 8 % r),V.str wd]))
  have gp:=ϖg hpb (.lst [V.ref t])
  refine⟨pb,[.ref t],[(n1 / 8 % r,wd)],rfl,(gb0.trans gt).trans gp,ϖc,.cons ⟨t,rfl,(Same.grow gp).seqT (SqT.of ϖc)⟩ .nil,by simp,fun m hm=>?_⟩
  rw[List.mem_singleton.mp hm]
  exact⟨Int.emod_nonneg _ (by omega),Int.emod_lt_of_pos _ hr,hwd⟩
 rintro _ H3 ⟨pb,xb,B,rfl,g3,eb,hB,lB,mB⟩
 clear hpb0 gb0 eb0
 refine fun ds hds=>fun de hde=>?_
 have hde':H3 de=none:=(ϖg hds _).free hde
 have ned:ds≠de:=ϖs ϖc hde
 have PI0:PlI K H3 (upd (upd H3 ds (.dT [])) de (.dK [])) ds de g r 0:=⟨(ϖg hds (.dT [])).trans (ϖg hde (.dK [])),[],[],[],[],(ϖp ned).trans ϖc,ϖc,.nil,.nil,by simp,by simp,Nat.le_refl _,Nat.le_refl _,by simp,by simp⟩
 generalize upd (upd H3 ds (.dT [])) de (.dK [])=H4 at PI0⊢
 have g13:Same H H3:=g1.trans g3
 have hS4:SqL K H4 a (ns.map V.int):=(g13.trans PI0.same).seq hS
 refine⟨_,rfl,a,_,rfl,.inl hS4,_,_,rfl,_,_,rfl,⟨by decide,by decide,?_,?_⟩,?_⟩
 ·rw[List.length_map]
  show -(2 ^ 62:Int)≤if (ns.length:Int) < 63 then (ns.length:Int) else 63
  split<;>omega
 ·rw[List.length_map]
  show(if (ns.length:Int) < 63 then (ns.length:Int) else 63) < 2 ^ 62
  split<;>omega
 rw[List.length_map]
 have hturns:((if (ns.length:Int) < 63 then (ns.length:Int) else 63)-1).toNat≤62:=by split<;>omega
 let Iv_1:Nat→L2.St→Hp→Prop:=(fun i σ H'=>PlI K H3 H' ds de g r i∧∃x3 x9 x10 x11,σ=[some (.ref a),some (.int salt),some (.int most),some (.str g),x3,some (.int r),some (.ref pb),some (.ref ds),some (.ref de),x9,x10,x11,none])
 refine ϕc Iv_1 ⟨PI0,_,_,_,_,rfl⟩ (fun b_ r_ hb_ hr_=>?_) ?_
 ·rintro i σ H5 hi ⟨hI,x3,x9,x10,x11,rfl⟩
  have hi62:i < 62:=Nat.lt_of_lt_of_le hi hturns
  have hS5:SqL K H5 a (ns.map V.int):=(g13.trans hI.same).seq hS
  refine⟨fun v H'=>H5=H'∧∃n:Int,v=.int n,⟨_,rfl,_,rfl,_,rfl,a,ns,_,salt,rfl,hS5,by omega,s0,s1,fun n=>⟨rfl,n,rfl⟩⟩,?_⟩
  rintro _ _ ⟨rfl,n2,rfl⟩
  refine⟨fun v H'=>H5=H'∧∃n:Int,v=.int n∧0≤n∧(0 < r→n < r),⟨_,rfl,_,_,rfl,rfl,⟨by decide,by decide⟩,_,rfl,_,_,rfl,_,_,rfl,rfl,?_,rfl,_,rfl,?_,?_⟩,?_⟩
  ·split<;>omega
  ·exact Int.emod_nonneg _ (by split<;>omega)
  ·intro hr
   split<;>first|exact Int.emod_lt_of_pos _ hr|omega
  rintro _ _ ⟨rfl,ro,rfl,ro0,ro1⟩
  have stay:PlI K H3 H5 ds de g r (i+1):=hI.mono (Same.refl _) (Nat.le_succ _)
  refine⟨_,rfl,_,_,rfl,rfl,_,rfl,ϑ8 (fun hr=>?_) (fun hr=>?_)⟩
  rotate_left
  ·exact⟨_,rfl,_,_,rfl,rfl,_,rfl,ϑ8 (fun z=>absurd z hr) (fun _=>⟨stay,_,_,_,_,rfl⟩)⟩
  have hrr:0 < r∧r < 1073741824:=⟨hr,by omega⟩
  have hgl:(0:Int) < g.length∧(g.length:Int) < 1073741824:=by omega
  have ro1:=ro1 hr
  refine⟨_,rfl,_,_,rfl,rfl,pz,rfl,_,rfl,ϑ8 (fun c1=>?_) (fun c1=>?_)⟩
  ·refine⟨_,rfl,_,_,rfl,rfl,⟨by decide,by decide⟩,_,rfl,_,_,rfl,rfl,hrr,_,rfl,fun wd H6 hwd g6=>?_⟩
   have hI:=hI.mono g6 (Nat.le_refl _)
   obtain⟨j0,S,kvs,E',kve,j1,j2,j3,j4,j5,j6,j7,j8,j9,j10⟩:=hI
   refine⟨_,rfl,_,rfl,de,_,rfl,.inl ⟨kve,Sum.inl ro,j2,rfl,szl' (by omega),rfl⟩,?_⟩
   obtain⟨E2,k1,k2⟩:=ϵo (R:=EnM) (k:=Sum.inl ro) (v:=.str wd) (t:=(ro,wd)) rfl j4
   refine⟨⟨ϖC j0 hde',S,kvs,E2,_,(ϖp ned).trans j1,ϖc,ϖb (fun _ _=>EnS.gt (ϕD j2 (fun _ z=>nomatch z) (fun _ _ z=>nomatch z) _)) j3,k1,j5,put_nd j6,by omega,Nat.le_trans (put_le _ _ _) (by omega),j9,fun m hm=>?_⟩,_,_,_,_,rfl⟩
   rcases k2 m hm with z|z
   ·exact j10 m z
   ·rw[z];exact⟨ro0,ro1,hwd⟩
  refine⟨_,rfl,_,_,rfl,rfl,_,rfl,ϑ8 (fun _=>?_) (fun z=>absurd hr z)⟩
  obtain⟨sg,hc,hm⟩:=ϡ9 (xs:=cl g) (i:=n2 / 4 / r % (g.length:Int)) (Int.emod_nonneg _ (by omega)) (by rw[ϖ6];exact Int.emod_lt_of_pos _ hgl.1)
  refine⟨_,rfl,_,rfl,_,_,rfl,rfl,⟨by decide,by decide⟩,_,rfl,_,_,rfl,rfl,hrr,_,rfl,g,rfl,szl (by omega),_,_,rfl,rfl,hgl.1,g,_,sg,rfl,rfl,szl (by omega),hc,?_⟩
  refine⟨fun v H'=>H5=H'∧∃n:Int,v=.int n,⟨_,rfl,_,_,rfl,rfl,⟨by decide,by decide⟩,_,rfl,_,_,rfl,rfl,hrr,_,rfl,g,rfl,szl (by omega),_,_,rfl,rfl,hgl,rfl,_,rfl⟩,?_⟩
  rintro _ _ ⟨rfl,n3,rfl⟩
  refine⟨_,rfl,_,rfl,_,_,rfl,rfl,hrr,_,rfl,fun wd H6 hwd g6=>⟨_,rfl,_,rfl,_,_,rfl,rfl,hr,(by show 2≤sizeLine;decide),fun t ht=>?_⟩⟩
  have gt:=g6.trans (ϖg ht (.tup [V.str wd,V.int (n3 % r)]))
  have et:=ϖc (H:=H6) (a:=t) (o:=.tup [V.str wd,V.int (n3 % r)])
  have hI:=hI.mono gt (Nat.le_refl _)
  dsimp only at ht⊢
  generalize upd H6 t (.tup [V.str wd,V.int (n3 % r)])=H7 at hI et⊢
  refine⟨_,rfl,_,rfl,_,rfl,(by show 2≤sizeLine;decide),fun kt hkt=>?_⟩
  have gk:=ϖg hkt (.tup [V.int ro,V.str ⟨#[sg]⟩])
  have ek:=ϖc (H:=H7) (a:=kt) (o:=.tup [V.int ro,V.str ⟨#[sg]⟩])
  have hI:=hI.mono gk (Nat.le_refl _)
  have et:=gk _ _ et
  dsimp only at hkt⊢
  generalize upd H7 kt (.tup [V.int ro,V.str ⟨#[sg]⟩])=H8 at hI et ek⊢
  obtain⟨j0,S,kvs,E',kve,j1,j2,j3,j4,j5,j6,j7,j8,j9,j10⟩:=hI
  refine⟨ds,_,rfl,.inr ⟨kvs,[Sum.inl ro,Sum.inr ⟨#[sg]⟩],kt,j1,rfl,ek,szl' (by omega),rfl⟩,?_⟩
  have gd:GT H8 (upd H8 ds (.dT (putK kvs [Sum.inl ro,Sum.inr ⟨#[sg]⟩] (.ref t)))):=ϕD j1 (fun _ z=>nomatch z) (fun _ _ z=>nomatch z) _
  obtain⟨S2,k1,k2⟩:=ϵo (R:=EnS K H8) (k:=[Sum.inl ro,Sum.inr ⟨#[sg]⟩]) (v:=.ref t) (t:=(ro,⟨#[sg]⟩,wd,n3 % r)) ⟨rfl,t,rfl,SqT.of et⟩ j3
  refine⟨⟨ϖC j0 hds,S2,_,E',kve,ϖc,(ϖp ned.symm).trans j2,ϖb (fun _ _=>EnS.gt gd) k1,j4,put_nd j5,j6,Nat.le_trans (put_le _ _ _) (by omega),by omega,fun x hx=>?_,j10⟩,_,_,_,_,rfl⟩
  rcases k2 x hx with z|z
  ·exact j9 x z
  ·rw[z];exact⟨ro0,ro1,⟨sg,hm,rfl⟩,hwd,Int.emod_nonneg _ (by omega),Int.emod_lt_of_pos _ hr⟩
 rintro σ H5 ⟨hI,x3,x9,x10,x11,rfl⟩
 have hI:=hI.mono (Same.refl _) hturns
 obtain⟨j0,S,kvs,E',kve,j1,j2,j3,j4,j5,j6,j7,j8,j9,j10⟩:=hI
 have lS:S.length=kvs.length:=j3.length
 have lE:E'.length=kve.length:=j4.length
 refine⟨_,rfl,ds,kvs,rfl,j1,fun o=>?_⟩
 have gd:GT H5 (upd H5 ds (.frz o (.dT kvs))):=ϕD j1 (fun _ z=>nomatch z) (fun _ _ z=>nomatch z) _
 have e1:=ϖc (H:=H5) (a:=ds) (o:=.frz o (.dT kvs))
 have e2:upd H5 ds (.frz o (.dT kvs)) de=some (.dK kve):=(ϖp ned.symm).trans j2
 have g5:Same H3 (upd H5 ds (.frz o (.dT kvs))):=ϖC j0 hds
 have j3:=ϖb (fun _ _=>EnS.gt gd) j3
 generalize upd H5 ds (.frz o (.dT kvs))=H6 at e1 e2 g5 j3⊢
 refine ϟw (kvs:=kvs) (fun i ys τ H'=>Same H6 H'∧(∃ x y,τ=[x,y])∧i≤kvs.length∧Paired (StV K H') (S.take i) ys) ⟨Same.refl _,⟨_,_,rfl⟩,Nat.zero_le _,.nil⟩ (fun i ys τ H' z=>z.1 _ _ e1) ?_ ?_
 ·rintro i k y p b ys τ H' hkv ⟨g7,⟨x0,y0,rfl⟩,hil,hP⟩ hp hb
  obtain⟨t,ht,hk,b2,hy,hb2⟩:=ϖr j3 hkv
  have hk:k=keyT t:=hk
  have hy:y=.ref b2:=hy
  subst hk hy
  have hil:i < kvs.length:=(List.getElem?_eq_some_iff.mp hkv).1
  have gp:=ϖg hp (.tup [V.ref b,V.ref b2])
  have ep:=ϖc (H:=H') (a:=p) (o:=.tup [V.ref b,V.ref b2])
  have hb:=gp _ _ hb
  have g7:=g7.trans gp
  have hP:=ϖb (fun _ _=>StV.mono (Same.grow gp)) hP
  generalize upd H' p (.tup [V.ref b,V.ref b2])=H7 at gp ep hb g7 hP⊢
  have hb2:=(Same.grow g7).seqT hb2
  have hb:SqT K H7 b [.int t.1,.str t.2.1]:=SqT.of hb
  have hyl:ys.length≤999:=by rw[← hP.length,List.length_take];omega
  refine⟨p,_,rfl,SqT.of ep,rfl,_,_,rfl,_,_,rfl,rfl,?_⟩
  refine⟨_,rfl,_,_,_,_,rfl,rfl,hb,rfl,_,rfl,_,_,_,_,rfl,rfl,hb,rfl,_,rfl,_,_,_,_,rfl,rfl,hb2,rfl,_,rfl,_,_,_,_,rfl,rfl,hb2,rfl,(by show 4≤sizeLine;decide),fun p2 hp2=>⟨szl' (by omega),g7.trans (ϖg hp2 _),⟨_,_,rfl⟩,hil,?_⟩⟩
  rw[ϖA ht]
  exact ϖo (ϖb (fun _ _=>StV.mono (ϕb hp2 _)) hP) (.cons ⟨p2,rfl,SqT.of ϖc⟩ .nil)
 rintro xs τ H7 ⟨g7,_,_,hP⟩ ps hps
 rw[← lS,List.take_length] at hP
 have gs:=ϖg hps (.lst xs)
 have es:=ϖc (H:=H7) (a:=ps) (o:=.lst xs)
 have g8:=g7.trans gs
 have hP:=ϖb (fun _ _=>StV.mono (Same.grow gs)) hP
 generalize upd H7 ps (.lst xs)=H8 at es g8 hP⊢
 have e2:=g8 _ _ e2
 have g38:Same H3 H8:=g5.trans g8
 have npd:ps≠de:=fun z=>by rw[z,e2] at es;cases es
 refine⟨_,rfl,_,rfl,_,rfl,_,rfl,_,rfl,de,kve,rfl,e2,fun o2=>?_⟩
 have gd2:GT H8 (upd H8 de (.frz o2 (.dK kve))):=ϕD e2 (fun _ z=>nomatch z) (fun _ _ z=>nomatch z) _
 have e3:=ϖc (H:=H8) (a:=de) (o:=.frz o2 (.dK kve))
 have es2:upd H8 de (.frz o2 (.dK kve)) ps=some (.lst xs):=(ϖp npd).trans es
 have hP:=ϖb (fun _ _=>StV.gt gd2) hP
 have g39:Same H3 (upd H8 de (.frz o2 (.dK kve))):=ϖC g38 hde'
 generalize upd H8 de (.frz o2 (.dK kve))=H9 at e3 es2 hP g39⊢
 refine ϟR (kvs:=kve) (fun i ys τ H'=>Same H9 H'∧(∃ x y,τ=[x,y])∧i≤kve.length∧Paired (MkV K H') (E'.take i) ys) ⟨Same.refl _,⟨_,_,rfl⟩,Nat.zero_le _,.nil⟩ (fun i ys τ H' z=>z.1 _ _ e3) ?_ ?_
 ·rintro i k y p ys τ H' hkv ⟨g10,⟨x0,y0,rfl⟩,hil,hR⟩ hp
  obtain⟨m,hm,hk⟩:=ϖr j4 hkv
  have hk:(k,y)=(Sum.inl m.1,V.str m.2):=hk
  injection hk with hk1 hk2
  subst hk1 hk2
  have hil:i < kve.length:=(List.getElem?_eq_some_iff.mp hkv).1
  have gp:=ϖg hp (.tup [kV (Sum.inl m.1),V.str m.2])
  have ep:=ϖc (H:=H') (a:=p) (o:=.tup [kV (Sum.inl m.1),V.str m.2])
  have g10:=g10.trans gp
  have hR:=ϖb (fun _ _=>MkV.mono (Same.grow gp)) hR
  generalize upd H' p (.tup [kV (Sum.inl m.1),V.str m.2])=H10 at ep g10 hR⊢
  have hyl:ys.length≤999:=by rw[← hR.length,List.length_take];omega
  refine⟨p,_,rfl,SqT.of ep,rfl,_,_,rfl,_,_,rfl,rfl,?_⟩
  refine⟨_,rfl,_,rfl,(by show 2≤sizeLine;decide),fun p2 hp2=>⟨szl' (by omega),g10.trans (ϖg hp2 _),⟨_,_,rfl⟩,hil,?_⟩⟩
  rw[ϖA hm]
  exact ϖo (ϖb (fun _ _=>MkV.mono (ϕb hp2 _)) hR) (.cons ⟨p2,rfl,SqT.of ϖc⟩ .nil)
 rintro ye τ H10 ⟨g10,_,_,hR⟩ pe hpe
 rw[← lE,List.take_length] at hR
 have ge:=ϖg hpe (.lst ye)
 have ee:=ϖc (H:=H10) (a:=pe) (o:=.lst ye)
 have g11:=g10.trans ge
 have hR:=ϖb (fun _ _=>MkV.mono (Same.grow ge)) hR
 generalize upd H10 pe (.lst ye)=H11 at ee g11 hR⊢
 refine⟨(by show 5≤sizeLine;decide),fun v hv=>?_⟩
 have gv:=ϖg hv (.tup [V.str g,V.int r,V.ref pb,V.ref ps,V.ref pe])
 have g12:=g11.trans gv
 have g3z:=g39.trans g12
 have po:=ϛD j3 j5
 have pn:(E'.map (·.1)).Nodup:=by
  rw[ϱB (f:=fun m:Mk=>(Sum.inl m.1:Key)) (fun m kv h=>by rw[h]) j4] at j6
  have e:(E'.map fun m:Mk=>(Sum.inl m.1:Key))=(E'.map (·.1)).map Sum.inl:=by rw[List.map_map];rfl
  rw[e] at j6
  exact List.Pairwise.of_map _ (fun a b z y=>z (by rw[y])) j6
 exact q _ _ ⟨g,r,B,S,E'⟩ pb ps pe rfl ⟨g13.trans g3z,⟨v,xb,xs,ye,rfl,SqT.of ϖc,SqL.of (g3z _ _ eb),SqL.of (g12 _ _ es2),SqL.of (gv _ _ ee),ϖb (fun _ _=>MkV.mono (Same.grow g3z)) hB,ϖb (fun _ _=>StV.mono (Same.grow g12)) hP,ϖb (fun _ _=>MkV.mono (Same.grow gv)) hR⟩,
  ⟨Nat.le_trans lB (by decide),by show S.length≤62;omega,by show E'.length≤62;omega,mB,j9,j10,ϝw lB,List.Pairwise.of_map _ (fun a b z y=>z (by rw[y])) po,List.Pairwise.of_map _ (fun a b z y=>z (by rw[y])) pn,fun _=>lB,fun _=>po,fun _=>pn⟩,hr0,hr1,hg1,hg2,hg3,hg4⟩ hrm
theorem ϡa:FnScope ["_law_scribe"] ["_law_scribe"] (ϖj ϕh):=⟨rfl,rfl,rfl,by decide +kernel,rfl,by decide +kernel,by decide +kernel⟩
theorem ϡv (B:Bi mg) {ϖe ϖi:Addr} (XB:Xb K mg ϖe ϖi)  {f:Addr}{fd:FuncData} (F:Fun K "_law_copy" "_law_copy" ϕh f fd):FnOk P w K mg base CX0 1 f fd ["_law_scribe"] (ϲb K):=by
 refine F.ok ϡa (fun vs H Q E h=>?_) (fun cdv A outer s H vs Q E hr h=>?_)
 ·obtain⟨v,s,pb,ps,pe,rfl,_⟩:=h;rfl
 obtain⟨v,s,pb,ps,pe,rfl,hV,q⟩:=h
 refine⟨_,(ϖk (ϖE (ϑl (ϖa (hs:=ϖQ) (ϖq (kIx (K:=K) rIxT ϖl) (pv 0) ϖh (by intro _ _;rfl)) (ϖa (hs:=ϖQ) (ϖq (kIx (K:=K) rIxT ϖl) (pv 0) ϖh (by intro _ _;rfl)) (ϖa (hs:=ϕj) (ϑy (ϰ2 (K:=K) rLo ϕZ) (by rfl) B.list ϱb (ϖa (hs:=ϖQ) (ϖq (kIx (K:=K) rIxT ϖl) (pv 0) ϖh (by intro _ _;rfl)) ϖf)) (ϖa (hs:=ϕj) (ϑy (ϰ2 (K:=K) rLo ϕZ) (by rfl) B.list ϱb (ϖa (hs:=ϖQ) (ϖq (kIx (K:=K) rIxT ϖl) (pv 0) ϖh (by intro _ _;rfl)) ϖf)) (ϖa (hs:=ϕj) (ϑy (ϰ2 (K:=K) rLo ϕZ) (by rfl) B.list ϱb (ϖa (hs:=ϖQ) (ϖq (kIx (K:=K) rIxT ϖl) (pv 0) ϖh (by intro _ _;rfl)) ϖf)) ϖf)))))))),?_⟩
 obtain⟨a,xb,xs,xe,rfl,h1,h2,h3,h4,h5,h6,h7⟩:=hV
 refine⟨_,rfl,_,_,_,_,rfl,rfl,h1,rfl,_,rfl,_,_,_,_,rfl,rfl,h1,rfl,_,rfl,_,_,_,_,rfl,rfl,h1,rfl,pb,xb,rfl,.inl h2,fun qb hqb=>?_⟩
 have g1:=ϖg hqb (.lst xb)
 refine⟨_,rfl,_,_,_,_,rfl,rfl,Same.seqT g1 h1,rfl,ps,xs,rfl,.inl (g1.seq h3),fun qs hqs=>?_⟩
 have g2:=g1.trans (ϖg hqs (.lst xs))
 refine⟨_,rfl,_,_,_,_,rfl,rfl,Same.seqT g2 h1,rfl,pe,xe,rfl,.inl (g2.seq h4),fun qe hqe=>⟨(by show 5≤sizeLine;decide),fun v hv=>?_⟩⟩
 have g3:=g2.trans (ϖg hqe (.lst xe))
 have gv:=ϖg hv (.tup [V.str s.signs,V.int s.rooms,V.ref qb,V.ref qs,V.ref qe])
 have hqs':H qs=none:=g1.free hqs
 have hqe':upd H qb (.lst xb) qe=none:=(ϖg hqs (.lst xs)).free hqe
 have AP:Apart H qb qs qe:=⟨hqb,hqs',g1.free hqe',ϖs ϖc hqs,ϖs ϖc hqe',ϖs ϖc hqe⟩
 have eb:upd (upd (upd H qb (.lst xb)) qs (.lst xs)) qe (.lst xe) qb=some (.lst xb):=by rw[ϖp AP.be,ϖp AP.bs];exact ϖc
 have es:upd (upd (upd H qb (.lst xb)) qs (.lst xs)) qe (.lst xe) qs=some (.lst xs):=by rw[ϖp AP.se];exact ϖc
 have ee:upd (upd (upd H qb (.lst xb)) qs (.lst xs)) qe (.lst xe) qe=some (.lst xe):=ϖc
 have G:=Same.grow (g3.trans gv)
 exact q _ _ qb qs qe (g3.trans gv) ⟨v,xb,xs,xe,rfl,SqT.of ϖc,gv _ _ eb,gv _ _ es,gv _ _ ee,ϖb (fun _ _=>MkV.mono G) h5,ϖb (fun _ _=>StV.mono G) h6,ϖb (fun _ _=>MkV.mono G) h7⟩ AP
theorem sc_law_is_scribe:FnScope ["_law_found","_law_k","_law_told","_law_one","_law_kind"] ["_law_found"] (ϖj ϑa):=⟨rfl,rfl,rfl,by decide +kernel,rfl,by decide +kernel,by decide +kernel⟩
theorem ϱq (B:Bi mg) {ϖe ϖi:Addr} (XB:Xb K mg ϖe ϖi) (ϕO:Cal P w K mg base "_law_whole" ["_law_found"] 1 (ϵQ K)) {f:Addr}{fd:FuncData} (F:Fun K "_law_is_scribe" "_law_is_scribe" ϑa f fd):FnOk P w K mg base CX0 2 f fd ["_law_found"] (ϡs K):=by
 refine F.ok sc_law_is_scribe (fun vs H Q E h=>?_) (fun cdv A outer s H vs Q E hr h=>?_)
 ·obtain⟨v,s,pb,ps,pe,rfl,_⟩:=h;rfl
 obtain⟨v,s,pb,ps,pe,rfl,hV,q⟩:=h
 refine⟨_,(ϖd (ϑm (PW.pt (ϱp (ϕ1 (ϕ4 (ϖy (ϰ2 (K:=K) rIsD ϕ6) (by rfl) B.isinstance ϑd (ϖa (pv 0) (ϖa (ϡD (by rfl) B.tuple ϡJ) ϖf))))) (ϱp (ϖx ϛL (ϖy (kLen (K:=K)) (by rfl) B.len ϑk (ϖa (pv 0) ϖf)) ϖh (ϖH _)) (ϱp (ϕ1 (ϕ4 (ϖy (ϰ2 (K:=K) rIs ϕL) (by rfl) B.isinstance ϑd (ϖa (ϖq (kIx (K:=K) rIxT ϖl) (pv 0) ϖh (by intro _ _;rfl)) (ϖa (ϡD (by rfl) B.str ϛU) ϖf))))) (ϰv (ϕ1 (ϕ4 (ϖM ϕO hr (by decide:1≤1) (by rfl) (ϖa (hs:=ϖQ) (ϖq (kIx (K:=K) rIxT ϖl) (pv 0) ϖh (by intro _ _;rfl)) ϖf))))))))) (ϖk (ϖE ϱg)) ϖG)
   (ϖd (ϑs PassesOwn.never (by rfl) (ϱR (by rfl) B.range (ϖa ϖh (ϖa ϖh ϖf))) (ϖm (i:=1) sc_law_is_scribe.nd rfl (Or.inl rfl)) (ϖd (ϑm (ϕ1 (ϕ4 (ϖy (ϰ2 (K:=K) rIsD ϕ6) (by rfl) B.isinstance ϑd (ϖa (ϖq (kIx (K:=K) rIxT ϖl) (pv 0) (pv 1) (by intro _ _;rfl)) (ϖa (ϡD (by rfl) B.list ϱb) ϖf))))) (ϖk (ϖE ϱg)) ϖG)
   (ϖk (ϑs PassesOwn.never (by rfl) (kPI (K:=K) (fun k=>ϑO k _) (ϖR (ϖq (kIx (K:=K) rIxT ϖl) (pv 0) (pv 1) (by intro _ _;rfl)))) (ϖm (i:=2) sc_law_is_scribe.nd rfl (Or.inl rfl)) (ϖd (ϑm (PW.pt (ϱp (ϕ1 (ϕ4 (ϖy (ϰ2 (K:=K) rIsD ϕ6) (by rfl) B.isinstance ϑd (ϖa (pv 2) (ϖa (ϡD (by rfl) B.tuple ϡJ) ϖf))))) (ϰv (ϖx ϛL (ϖy (kLen (K:=K)) (by rfl) B.len ϑk (ϖa (pv 2) ϖf)) (ϖq (kIx (K:=K) rIxL ϑj) (ϖV (ϖa ϖh (ϖa ϖh (ϖa ϖh ϖf)))) (ϖt ϛ7 (pv 1) ϖh) (by intro _ _;rfl)) (ϖH _))))) (ϖk (ϖE ϱg)) ϖG)
   (ϖk (ϑs PassesOwn.never (by rfl) (kPI (K:=K) (fun k=>iZip k _) (pi_zip (by rfl) B.zip (ϖa (pv 2) (ϖa (hs:=ϖQ) (ϖq (kIx (K:=K) rIxL ϑj) (ϖV (ϖa (hs:=ϡz) (ϖV (ϖa ϖh (ϖa ϖh ϖf))) (ϖa (hs:=ϡz) (ϖV (ϖa ϖh (ϖa ϖh (ϖa ϖh (ϖa ϖh ϖf))))) (ϖa (hs:=ϡz) (ϖV (ϖa ϖh (ϖa ϖh ϖf))) ϖf)))) (ϖt ϛ7 (pv 1) ϖh) (by intro _ _;rfl)) ϖf)))) (kPG (K:=K) (fun k=>gTup k 2 _) (ϕJ (n:=2) (by rfl) (ϖu (ϖm (i:=3) sc_law_is_scribe.nd rfl (Or.inl rfl)) (ϖu (ϖm (i:=4) sc_law_is_scribe.nd rfl (Or.inl rfl)) ϑV)))) (ϖk (ϑm (PW.pt (ϱp (PW.pt (ϱ6 (ϖx ϰ4 (pv 4) ϖh (ϖH _)) (ϰp (ϕ1 (ϕ4 (ϖM ϕO hr (by decide:1≤1) (by rfl) (ϖa (pv 3) ϖf))))))) (ϰv (PW.pt (ϱ6 (ϖx ϰ4 (pv 4) ϖh (ϖH _)) (ϰp (ϕ1 (ϕ4 (ϖy (ϰ2 (K:=K) rIs ϕL) (by rfl) B.isinstance ϑd (ϖa (pv 3) (ϖa (ϡD (by rfl) B.str ϛU) ϖf))))))))))) (ϖk (ϖE ϱg)) ϖG)))))))))
   (ϖk (ϖE ϱg)))),?_⟩
 obtain⟨a,xb,xs,xe,ev,h1,h2,h3,h4,h5,h6,h7⟩:=id hV
 subst ev
 refine⟨_,rfl,_,dScr s,"tuple",rfl,hV.rep,.inl rfl,_,rfl,iteF ?_⟩
 refine⟨_,rfl,a,_,rfl,.inr h1,rfl,_,rfl,ϰX (fun c=>absurd rfl c) (fun _=>?_)⟩
 refine⟨_,rfl,_,_,_,_,rfl,rfl,h1,rfl,_,"str",_,_,rfl,TyOf.str _,is_str,_,rfl,iteF ?_⟩
 refine⟨_,rfl,_,_,_,_,rfl,rfl,h1,rfl,s.rooms,rfl,_,rfl,iteF ?_⟩
 refine⟨_,_,rfl,⟨by decide,by decide,by decide,by decide⟩,?_⟩
 let Iv_1:Nat→L2.St→Hp→Prop:=(fun i σ H'=>Same H H'∧∃x1 x2 x3 x4,σ=[some (.ref a),x1,x2,x3,x4])
 refine ϕc Iv_1 ⟨Same.refl _,_,_,_,_,rfl⟩ (fun b_ r_ hb_ hr_=>?_) ?_
 ·rintro i σ H1 hi ⟨g1,x1,x2,x3,x4,rfl⟩
  have hi3:i < 3:=hi
  obtain⟨p,cs,hat,hn2,hrow,hz⟩:∃p cs,atI [V.str s.signs,V.int s.rooms,V.ref pb,V.ref ps,V.ref pe] (2+(i:Int))=some (.ref p)∧atI [V.int 2,V.int 4,V.int 2] (2+(i:Int)-2)=some (.int ((List.length cs:Nat):Int))∧RowOk K H1 p cs ∧
    ∀(p1 p2 p3:Addr) (Hx:Hp),Hx p1=some (.lst [V.int 0,V.int 1])→Hx p2=some (.lst [V.int 0,V.int 1,V.int 1,V.int 0])→Hx p3=some (.lst [V.int 0,V.int 1])→∃pj,atI [V.ref p1,V.ref p2,V.ref p3] (2+(i:Int)-2)=some (.ref pj)∧Hx pj=some (.lst (cs.map V.int)):=by
   have hc:i=0∨i=1∨i=2:=by omega
   rcases hc with rfl|rfl|rfl
   ·exact⟨pb,[0,1],rfl,rfl,RowOk.mk (g1.seq h2) (ϖb (fun _ _=>MkV.mono (Same.grow g1)) h5),fun p1 p2 p3 Hx e1 e2 e3=>⟨p1,rfl,e1⟩⟩
   ·exact⟨ps,[0,1,1,0],rfl,rfl,RowOk.st (g1.seq h3) (ϖb (fun _ _=>StV.mono (Same.grow g1)) h6),fun p1 p2 p3 Hx e1 e2 e3=>⟨p2,rfl,e2⟩⟩
   ·exact⟨pe,[0,1],rfl,rfl,RowOk.mk (g1.seq h4) (ϖb (fun _ _=>MkV.mono (Same.grow g1)) h7),fun p1 p2 p3 Hx e1 e2 e3=>⟨p3,rfl,e3⟩⟩
  obtain⟨X,D',r1,r2,r3⟩:=hrow
  refine⟨_,rfl,_,rfl,_,_,_,_,rfl,rfl,Same.seqT g1 h1,hat,_,.lst D',"list",rfl,r2,.inr (.inr (.inr (.inr rfl))),_,rfl,iteF ?_⟩
  refine⟨_,rfl,_,rfl,_,_,_,_,rfl,rfl,Same.seqT g1 h1,hat,p,rfl,⟨X,r1⟩,?_⟩
  let Iv_2:Nat→L2.St→Hp→Prop:=(fun j σ H'=>Same H1 H'∧∃x2 x3 x4,σ=[some (.ref a),some (.int (2+(i:Int))),x2,x3,x4])
  refine ϑK (xs:=X) Iv_2 ⟨Same.refl _,_,_,_,rfl⟩ (fun j σ H' _ z=>z.1.seq r1) (fun b_ r_ hb_ hr_=>?_) ?_
  ·rintro j x σ H2 hx ⟨g2,x2,x3,x4,rfl⟩
   obtain⟨b,vs,d,rfl,hb,hk,hd,ht⟩:=r3 x (List.mem_of_getElem? hx)
   have hb2:=(Same.grow g2).seqT hb
   have hlen:vs.length=cs.length:=hk.length
   refine⟨_,rfl,_,d,"tuple",rfl,Rep.mono g2 d _ hd,.inl rfl,_,rfl,?_⟩
   rw[ht]
   refine iteF ?_
   refine⟨_,rfl,b,_,rfl,.inr hb2,szl (by simp),fun p2 hp2=>⟨_,rfl,_,_,rfl,rfl,_,_,_,_,rfl,rfl,SqL.of ϖc,hn2,rfl,_,rfl,ϰX (fun c=>absurd (by rw[hlen]) c) (fun _=>?_)⟩⟩
   have gp2:=ϖg hp2 (.lst [V.int 2,V.int 4,V.int 2])
   have g3:=g2.trans gp2
   have hb3:=(Same.grow gp2).seqT hb2
   generalize upd H2 p2 (.lst [V.int 2,V.int 4,V.int 2])=H3 at g3 hb3⊢
   refine⟨_,rfl,szl (by simp),fun q1 hq1=>⟨szl (by simp),fun q2 hq2=>⟨szl (by simp),fun q3 hq3=>⟨szl (by simp),fun q4 hq4=>?_⟩⟩⟩⟩
   have k1:=ϖg hq1 (.lst [V.int 0,V.int 1])
   have k2:=ϖg hq2 (.lst [V.int 0,V.int 1,V.int 1,V.int 0])
   have k3:=ϖg hq3 (.lst [V.int 0,V.int 1])
   have k4:=ϖg hq4 (.lst [V.ref q1,V.ref q2,V.ref q3])
   obtain⟨pj,hatj,epj⟩:=hz q1 q2 q3 _ (k4 _ _ (k3 _ _ (k2 _ _ ϖc))) (k4 _ _ (k3 _ _ ϖc)) (k4 _ _ ϖc)
   have g4:=g3.trans (((k1.trans k2).trans k3).trans k4)
   have hb4:=(Same.grow (((k1.trans k2).trans k3).trans k4)).seqT hb3
   refine⟨_,rfl,_,_,rfl,rfl,_,_,_,_,rfl,rfl,SqL.of ϖc,hatj,b,pj,rfl,⟨_,hb4⟩,⟨_,SqL.of epj⟩,?_⟩
   generalize upd (upd (upd (upd H3 q1 (.lst [V.int 0,V.int 1])) q2 (.lst [V.int 0,V.int 1,V.int 1,V.int 0])) q3 (.lst [V.int 0,V.int 1])) q4 (.lst [V.ref q1,V.ref q2,V.ref q3])=H4 at epj g4 hb4⊢
   let Iv_3:Nat→L2.St→Hp→Prop:=(fun m σ H'=>Same H4 H'∧∃x3 x4,σ=[some (.ref a),some (.int (2+(i:Int))),some (.ref b),x3,x4])
   refine ϛA (t:=b) (l:=pj) (xs:=vs) (ys:=cs.map V.int) (by rw[List.length_map];omega) Iv_3 ⟨Same.refl _,_,_,rfl⟩ (fun m σ H' _ z=>⟨(Same.grow z.1).seqT hb4,SqL.of (z.1 _ _ epj)⟩) (fun b_ r_ hb_ hr_=>?_) ?_
   ·rintro m x y q0 σ H5 hx hy ⟨g5,x3,x4,rfl⟩ hq0
    rw[List.getElem?_map] at hy
    obtain⟨c,hc,rfl⟩:=Option.map_eq_some_iff.mp hy
    have gq:=ϖg hq0 (.tup [x,V.int c])
    have eq0:=ϖc (H:=H5) (a:=q0) (o:=.tup [x,V.int c])
    have g6:=g5.trans gq
    generalize upd H5 q0 (.tup [x,V.int c])=H6 at eq0 g6⊢
    refine⟨q0,_,rfl,SqT.of eq0,rfl,_,_,rfl,_,_,rfl,rfl,?_⟩
    rcases ϟQ hk hx hc with⟨rfl,n,rfl⟩|⟨rfl,w,rfl⟩
    ·refine⟨_,rfl,rfl,_,rfl,ϛl rfl ⟨_,rfl,n,rfl,_,rfl,iteF ?_⟩⟩
     exact⟨_,rfl,rfl,_,rfl,iteD (fun z=>by cases z) ⟨g6,_,_,rfl⟩⟩
    ·refine⟨_,rfl,rfl,_,rfl,iteD (fun z=>by cases z) (iteF ?_)⟩
     exact⟨_,rfl,rfl,_,rfl,ϛl rfl ⟨_,rfl,_,"str",_,_,rfl,TyOf.str _,is_str,_,rfl,g6,_,_,rfl⟩⟩
   ·rintro σ H5 ⟨g5,x3,x4,rfl⟩
    exact⟨g4.trans g5,_,_,_,rfl⟩
  rintro σ H2 ⟨g2,x2,x3,x4,rfl⟩
  exact⟨g1.trans g2,_,_,_,_,rfl⟩
 rintro σ H1 ⟨g1,x1,x2,x3,x4,rfl⟩
 exact q _ g1
theorem sc_law_run:FnScope ["_law_scribe","_law_text_here","_law_signs_here","_law_rooms","_law_begins","_law_steps","_law_ends","_law_room","_law_word_here","_law_sign","_law_led","_law_last","_law_more"] ["_law_scribe","_law_text_here"] (ϖj ϕB):=⟨rfl,rfl,rfl,by decide +kernel,rfl,by decide +kernel,by decide +kernel⟩
theorem ϟI (B:Bi mg) {ϖe ϖi:Addr} (XB:Xb K mg ϖe ϖi)  {f:Addr}{fd:FuncData} (F:Fun K "_law_run" "_law_run" ϕB f fd):FnOk P w K mg base CX0 1 f fd ["_law_scribe","_law_text_here"] (ϟ4 K):=by
 refine F.ok sc_law_run (fun vs H Q E h=>?_) (fun cdv A outer s H vs Q E hr h=>?_)
 ·obtain⟨v,s,pb,ps,pe,x,L,rfl,_⟩:=h;rfl
 obtain⟨v,s,pb,ps,pe,x,L,rfl,hV,okR,wl,hx,q⟩:=h
 refine⟨_,(ϖd (ϟt (pv 0) (kPG (K:=K) (fun k=>gTup k 5 _) (ϕJ (n:=5) (by rfl) (ϖu (ϖm (i:=2) sc_law_run.nd rfl (Or.inl rfl)) (ϖu (ϖm (i:=3) sc_law_run.nd rfl (Or.inl rfl)) (ϖu (ϖm (i:=4) sc_law_run.nd rfl (Or.inl rfl)) (ϖu (ϖm (i:=5) sc_law_run.nd rfl (Or.inl rfl)) (ϖu (ϖm (i:=6) sc_law_run.nd rfl (Or.inl rfl)) ϑV))))))))
   (ϖd (ϑm (ϖx (kOp (K:=K) rEqD (ϲV hr.units)) (pv 4) (ϖV ϖf) (ϖH _)) (ϖk (ϖE ϰQ)) ϖG)
   (ϖd (ϟt (ϖq (kIx (K:=K) rIxL ϑj) (pv 4) ϖh (by intro _ _;rfl)) (kPG (K:=K) (fun k=>gTup k 2 _) (ϕJ (n:=2) (by rfl) (ϖu (ϖm (i:=7) sc_law_run.nd rfl (Or.inr rfl)) (ϖu (ϖm (i:=8) sc_law_run.nd rfl (Or.inl rfl)) ϑV)))))
   (ϖd (ϑs PassesOwn.never (by rfl) (ϛ3 (pv 1)) (ϖm (i:=9) sc_law_run.nd rfl (Or.inr rfl)) (ϖd (ϑF (i:=10) sc_law_run.nd rfl (Or.inl rfl) (by rfl) (by rfl) (ϑx (N':=["_law_step","_law_room","_law_sign"]) (js:=[none,some 7,some 9]) rfl (by decide +kernel) rfl (by decide +kernel) rfl rfl) (kPI (K:=K) (fun k=>ϑO k _) (ϖR (pv 5))) (fun _ _ _ _ _=>(ϖm (i:=0) (show List.Nodup (["_law_step","_law_room","_law_sign"]:List Str) by decide +kernel) rfl (Or.inl rfl))) (fun _ _ _ _ _=>(ϱX (PW.pt (ϱ6 (ϖx ϰ4 (ϖq (kIx (K:=K) rIxT ϖl) (pv 0) ϖh (by intro _ _;rfl)) (pv 1) (ϖH _)) (ϰp (ϖx ϰ4 (ϖq (kIx (K:=K) rIxT ϖl) (pv 0) ϖh (by intro _ _;rfl)) (pv 2) (ϖH _))))))) (fun _ _ _ _ _=>(pv 0)))
   (ϖd (ϑm (ϖx (kOp (K:=K) rEqD (ϲV hr.units)) (pv 10) (ϖV ϖf) (ϖH _)) (ϖk (ϖE ϰQ)) ϖG)
   (ϖd (ϖn (i:=8) sc_law_run.nd rfl (Or.inl rfl) (ϖt ϑY (pv 8) (ϖq (kIx (K:=K) rIxT ϖl) (ϖq (kIx (K:=K) rIxL ϑj) (pv 10) ϖh (by intro _ _;rfl)) ϖh (by intro _ _;rfl))))
   (ϖk (ϖn (i:=7) sc_law_run.nd rfl (Or.inr rfl) (ϖq (kIx (K:=K) rIxT ϖl) (ϖq (kIx (K:=K) rIxL ϑj) (pv 10) ϖh (by intro _ _;rfl)) ϖh (by intro _ _;rfl))))))))
   (ϖd (ϑs PassesOwn.never (by rfl) (kPI (K:=K) (fun k=>ϑO k _) (ϖR (pv 6))) (kPG (K:=K) (fun k=>gTup k 2 _) (ϕJ (n:=2) (by rfl) (ϖu (ϖm (i:=11) sc_law_run.nd rfl (Or.inl rfl)) (ϖu (ϖm (i:=12) sc_law_run.nd rfl (Or.inl rfl)) ϑV)))) (ϖk (ϑm (ϖx ϰ4 (pv 11) (pv 7) (ϖH _)) (ϖk (ϖE (ϖt ϑY (pv 8) (pv 12)))) ϖG)))
   (ϖk (ϖE ϰQ))))))),?_⟩
 obtain⟨av,xb,xs,xe,rfl,h1,h2,h3,h4,h5,h6,h7⟩:=hV
 have hls:=okR.ls
 have hle:=okR.le
 refine⟨_,rfl,av,_,rfl,h1,rfl,_,_,rfl,_,_,rfl,_,_,rfl,_,_,rfl,_,_,rfl,rfl,?_⟩
 refine⟨_,rfl,szl (by simp),fun l hl=>?_⟩
 have gl:=ϖg hl (.lst [])
 refine⟨.lst (s.begins.map dMk),.lst [],ϖZ (gl.seq h2) (ϰO (m:=(0,"")) (ϖb (fun _ _=>MkV.mono (Same.grow gl)) h5)),ϖZ (SqL.of ϖc) .nil,?_,_,rfl,?_⟩
 ·have:=ϑz dMk 1 ϰf s.begins
  simp only[deep];omega
 generalize upd H l (.lst [])=H2 at gl⊢
 cases hb:s.begins with
 |nil=>
  have hq:=q _ gl
  unfold runS at hq
  rw[hb] at hq
  exact iteT hq
 |cons m0 M0=>
 refine iteF ?_
 have hm0:s.begins[0]?=some m0:=by rw[hb];rfl
 have hrun:runS s x=(ϑB s.steps (cl x) m0.1 m0.2).bind (endW s.ends):=by unfold runS;rw[hb]
 obtain⟨vb,hvb,bb,rfl,hbb⟩:=ϰo h5 hm0
 have lm0:=wl.wb m0 (List.mem_of_getElem? hm0)
 refine⟨_,rfl,pb,xb,_,_,rfl,rfl,gl.seq h2,ϖ9 hvb,bb,_,rfl,Same.seqT gl hbb,rfl,_,_,rfl,_,_,rfl,rfl,?_⟩
 refine⟨_,rfl,_,rfl,?_⟩
 have hxl:(cl x).length=x.length:=ϖ6 x
 refine ϝz (fun i σ H'=>i≤x.length∧Same H H'∧∃r w x9 x10,runS s x=(ϑB s.steps ((cl x).drop i) r w).bind (endW s.ends)∧w.length≤L*(i+1)∧σ=[some (.ref av),some (.str x),some (.str s.signs),some (.int s.rooms),some (.ref pb),some (.ref ps),some (.ref pe),some (.int r),some (.str w),x9,x10,none,none])
  ⟨Nat.zero_le _,gl,m0.1,m0.2,none,none,hrun,by omega,rfl⟩ ?_ ?_
 ·rintro i c σ H3 hc ⟨hi,g3,r,w,x9,x10,hr,hw,rfl⟩
  have hc:(cl x)[i]?=some c:=hc
  have hil:i < x.length:=by rw[← hxl];exact(List.getElem?_eq_some_iff.mp hc).1
  have hdr:(cl x).drop i=c::(cl x).drop (i+1):=List.drop_eq_getElem?_toList_append.trans (by rw[hc];rfl)
  rw[hdr,ϕl] at hr
  refine⟨_,rfl,ps,rfl,⟨xs,g3.seq h3⟩,?_⟩
  refine ϖU (xs:=xs) (fun n ys τ H'=>H3=H'∧(∃ y,τ=[y,some (.int r),some (.str ⟨#[c]⟩)])∧n≤xs.length∧ys.length≤n∧Paired (StV K H3) ((s.steps.take n).filter (stP r c)) ys) ⟨rfl,⟨_,rfl⟩,Nat.zero_le _,Nat.zero_le _,.nil⟩ (fun n ys τ H' z=>z.1▸g3.seq h3) ?_ ?_
  ·rintro n y ys τ _ hy ⟨rfl,⟨y0,rfl⟩,hn,hyl,hP⟩
   obtain⟨t,ht,b,rfl,hb2⟩:=ϖr h6 hy
   have hnl:n < xs.length:=(List.getElem?_eq_some_iff.mp hy).1
   have hll:s.steps.length=xs.length:=h6.length
   have hb3:=(Same.grow g3).seqT hb2
   refine⟨_,rfl,b,_,_,_,rfl,rfl,hb3,rfl,_,rfl,rfl,_,rfl,ϑ8 (fun c1=>?_) (fun c1=>?_)⟩
   ·refine⟨_,rfl,b,_,_,_,rfl,rfl,hb3,rfl,_,rfl,rfl,_,rfl,ϑ8 (fun c2=>?_) (fun c2=>?_)⟩
    ·injection c1 with c1
     injection c2 with c2
     refine⟨_,rfl,szl' (by omega),rfl,⟨_,rfl⟩,hnl,by rw[List.length_append,List.length_singleton];omega,?_⟩
     rw[ϖA ht,ϑc,if_pos (stP_iff.mpr ⟨c1,c2⟩)]
     exact ϖo hP (.cons ⟨b,rfl,hb3⟩ .nil)
    ·refine⟨rfl,⟨_,rfl⟩,hnl,by omega,?_⟩
     rw[ϖA ht,ϑc,if_neg (fun z=>c2 (by rw[(stP_iff.mp z).2])),List.append_nil]
     exact hP
   ·refine⟨rfl,⟨_,rfl⟩,hnl,by omega,?_⟩
    rw[ϖA ht,ϑc,if_neg (fun z=>c1 (by rw[(stP_iff.mp z).1])),List.append_nil]
    exact hP
  rintro zs τ _ ⟨rfl,_,_,hzl,hP⟩ lo hlo
  rw[← h6.length,List.take_length] at hP
  have ko:=ϖg hlo (.lst zs)
  have eo:=ϖc (H:=H3) (a:=lo) (o:=.lst zs)
  have g4:=g3.trans ko
  have hP:=ϖb (fun _ _=>StV.mono (Same.grow ko)) hP
  generalize upd H3 lo (.lst zs)=H4 at eo g4 hP⊢
  refine⟨_,rfl,szl (by simp),fun l2 hl2=>?_⟩
  have gl2:=ϖg hl2 (.lst [])
  have hP:=ϖb (fun _ _=>StV.mono (Same.grow gl2)) hP
  have e1:=gl2 _ _ eo
  refine⟨.lst ((s.steps.filter (stP r c)).map dSt),.lst [],ϖZ (SqL.of e1) (ϡy hP),ϖZ (SqL.of ϖc) .nil,?_,_,rfl,?_⟩
  ·have:=ϑz dSt 1 ϵE (s.steps.filter (stP r c))
   simp only[deep];omega
  have g5:=g4.trans gl2
  generalize upd H4 l2 (.lst [])=H5 at g5 e1 hP⊢
  rw[← List.head?_filter] at hr
  cases hF:s.steps.filter (stP r c) with
  |nil=>
   rw[hF] at hr
   have hq:=q _ g5
   rw[hr] at hq
   exact iteT hq
  |cons t F0=>
  rw[hF] at hP hr
  obtain⟨vt,hvt,bt,rfl,hbt⟩:=ϰo (i:=0) hP rfl
  have htm:t∈s.steps:=(List.mem_filter.mp (by rw[hF];exact List.mem_cons_self ..)).1
  have tl:=wl.ws t htm
  have hw2:L*(i+1)≤L*(x.length+2):=Nat.mul_le_mul_left L (by omega)
  have hL1:L≤L*(x.length+2):=Nat.le_mul_of_pos_right L (by omega)
  have hw3:L*(i+1)+L≤L*(x.length+2):=by rw[← Nat.mul_succ];exact Nat.mul_le_mul_left L (by omega)
  refine iteF ?_
  refine⟨_,rfl,_,rfl,lo,zs,_,_,rfl,rfl,SqL.of e1,ϖ9 hvt,bt,_,_,_,rfl,rfl,hbt,rfl,_,_,rfl,rfl,szl (by omega),?_⟩
  refine⟨_,rfl,lo,zs,_,_,rfl,rfl,SqL.of e1,ϖ9 hvt,bt,_,_,_,rfl,rfl,hbt,rfl,?_⟩
  exact⟨hil,g5,_,_,_,_,hr,by rw[ϕz,Nat.mul_succ];omega,rfl⟩
 rintro σ H3 ⟨_,g3,r,w,x9,x10,hr,hw,rfl⟩
 have hr:runS s x=(ϑB s.steps ((cl x).drop (cl x).length) r w).bind (endW s.ends):=hr
 have hw:w.length≤L*((cl x).length+1):=hw
 have hw2:L*((cl x).length+1)+L≤L*(x.length+2):=by rw[← Nat.mul_succ];exact Nat.mul_le_mul_left L (by omega)
 rw[List.drop_length] at hr
 refine⟨_,rfl,pe,rfl,⟨xe,g3.seq h4⟩,?_⟩
 refine ϡQ (xs:=xe) (fun n σ H'=>H3=H'∧n≤xe.length∧(∃ x11 x12,σ=[some (.ref av),some (.str x),some (.str s.signs),some (.int s.rooms),some (.ref pb),some (.ref ps),some (.ref pe),some (.int r),some (.str w),x9,x10,x11,x12])∧s.ends.find? (fun m=>decide (m.1=r))=(s.ends.drop n).find? fun m=>decide (m.1=r))
  ⟨rfl,Nat.zero_le _,⟨_,_,rfl⟩,rfl⟩ (fun n σ H' _ z=>z.1▸g3.seq h4) ?_ ?_
 ·rintro n y σ _ hy ⟨rfl,hn,⟨x11,x12,rfl⟩,hf⟩
  obtain⟨m,hm,b,rfl,hb2⟩:=ϖr h7 hy
  have hnl:n < xe.length:=(List.getElem?_eq_some_iff.mp hy).1
  have ml:=wl.we m (List.mem_of_getElem? hm)
  have hdm:s.ends.drop n=m::s.ends.drop (n+1):=List.drop_eq_getElem?_toList_append.trans (by rw[hm];rfl)
  rw[hdm,List.find?_cons] at hf
  refine⟨b,_,rfl,Same.seqT g3 hb2,rfl,_,_,rfl,_,_,rfl,rfl,?_⟩
  refine⟨_,rfl,_,rfl,rfl,_,rfl,ϑ8 (fun c1=>?_) (fun c1=>?_)⟩
  ·injection c1 with c1
   rw[decide_eq_true c1] at hf
   have e:runS s x=some (w++m.2):=by
    rw[hr]
    show(s.ends.find? fun m=>decide (m.1=r)).map _=_
    rw[hf];rfl
   have hq:=q _ g3
   rw[e] at hq
   exact⟨_,rfl,_,rfl,_,_,rfl,rfl,szl (by omega),hq⟩
  ·rw[decide_eq_false (fun z=>c1 (by rw[z]))] at hf
   exact⟨rfl,hnl,⟨_,_,rfl⟩,hf⟩
 rintro σ _ ⟨rfl,_,⟨x11,x12,rfl⟩,hf⟩
 rw[← h7.length,List.drop_length] at hf
 have e:runS s x=none:=by
  rw[hr]
  show(s.ends.find? fun m=>decide (m.1=r)).map _=_
  rw[hf];rfl
 have hq:=q _ g3
 rw[e] at hq
 exact hq
theorem sc_law_text:FnScope ["_law_script","_law_signs_here","_law_most","_law_rest_here","_law_text_here","_law_size","_law_k"] ["_law_script","_law_signs_here","_law_most"] (ϖj ϕg):=⟨rfl,rfl,rfl,by decide +kernel,rfl,by decide +kernel,by decide +kernel⟩
theorem ϡt (B:Bi mg) {ϖe ϖi:Addr} (XB:Xb K mg ϖe ϖi) (ϖJ:Cal P w K mg base "_law_mixed" ["_law_cell","_law_k"] 1 (ϱk)) (ϖz:Cal P w K mg base "_law_cell_at" ["_law_script","_law_k"] 1 (ϵA K)) {f:Addr}{fd:FuncData} (F:Fun K "_law_text" "_law_text" ϕg f fd):FnOk P w K mg base CX0 2 f fd ["_law_script","_law_signs_here","_law_most"] (ϡb K):=by
 refine F.ok sc_law_text (fun vs H Q E h=>?_) (fun cdv A outer s H vs Q E hr h=>?_)
 ·obtain⟨a,ns,g,n,rfl,_⟩:=h;rfl
 obtain⟨a,ns,g,n,rfl,hS,g1,g2,n0,n1,q⟩:=h
 refine⟨_,(ϖd (ϖn (i:=3) sc_law_text.nd rfl (Or.inl rfl) (ϕF (ϖt ϑP (ϖt ϕu (ϖM ϖJ hr (by decide:1≤1) (by rfl) (ϖa (hs:=ϕj) (ϖM ϖz hr (by decide:1≤1) (by rfl) (ϖa (pv 0) (ϖa ϖh ϖf))) (ϖa ϖh ϖf))) ϖh) (ϖM ϖJ hr (by decide:1≤1) (by rfl) (ϖa (hs:=ϕj) (ϖM ϖz hr (by decide:1≤1) (by rfl) (ϖa (pv 0) (ϖa ϖh ϖf))) (ϖa ϖh ϖf))))))
   (ϵa (ϑm (ϖx ϰ4 (ϖt ϑf (ϖM ϖz hr (by decide:1≤1) (by rfl) (ϖa (pv 0) (ϖa ϖh ϖf))) ϖh) ϖh (ϖH _)) (ϖk (ϖn (i:=3) sc_law_text.nd rfl (Or.inl rfl) (ϕF (ϖt ϛ9 (ϖM ϖz hr (by decide:1≤1) (by rfl) (ϖa (pv 0) (ϖa ϖh ϖf))) ϖh)))) ϖG)
   (ϖd (ϖn (i:=4) sc_law_text.nd rfl (Or.inl rfl) ϑ3)
   (ϖd (ϖn (i:=5) sc_law_text.nd rfl (Or.inl rfl) (ϕF (ϖt ϑf (pv 3) (ϖt ϑP (pv 2) ϖh))))
   (ϖd (ϖn (i:=3) sc_law_text.nd rfl (Or.inl rfl) (ϕF (ϖt ϖX (pv 3) (ϖt ϑP (pv 2) ϖh))))
   (ϖd (ϑs PassesOwn.never (by rfl) (ϰG (by rfl) B.range (ϖa (pv 5) ϖf)) (ϖm (i:=6) sc_law_text.nd rfl (Or.inl rfl)) (ϖd (ϖn (i:=4) sc_law_text.nd rfl (Or.inl rfl) (ϖt ϑY (pv 4) (ϖq ϟp (pv 1) (ϖt ϑf (pv 3) (ϖy ϑn (by rfl) B.len ϑk (ϖa (pv 1) ϖf))) (by intro _ _;rfl))))
   (ϖk (ϖn (i:=3) sc_law_text.nd rfl (Or.inl rfl) (ϕF (ϖt ϖX (pv 3) (ϖy ϑn (by rfl) B.len ϑk (ϖa (pv 1) ϖf))))))))
   (ϖk (ϖE (pv 4))))))))),?_⟩
 refine⟨fun v H'=>H=H'∧∃m:Int,v=.int m,⟨_,rfl,a,ns,1,rfl,hS,(by decide),_,_,rfl,fun n1 _ _=>⟨_,_,rfl,rfl,.inr ⟨by decide,by decide⟩,_,rfl,a,ns,1,rfl,hS,(by decide),_,_,rfl,fun n2 _ _=>⟨_,_,rfl,rfl,rfl,_,rfl⟩⟩⟩,?_⟩
 rintro _ _ ⟨rfl,r0,rfl⟩
 refine⟨fun σ H'=>H=H'∧∃m:Int,σ=[some (.ref a),some (.str g),some (.int n),some (.int m),none,none,none],?_,?_⟩
 ·refine⟨_,rfl,a,ns,0,rfl,hS,(by decide),_,_,rfl,rfl,pz,rfl,_,rfl,ϑ8 (fun _=>?_) (fun _=>⟨rfl,_,rfl⟩)⟩
  refine⟨fun v H'=>H=H'∧∃m:Int,v=.int m,⟨_,rfl,a,ns,1,rfl,hS,(by decide),_,_,rfl,rfl,(by show(0:Int)≤900;decide),rfl,_,rfl⟩,?_⟩
  rintro _ _ ⟨rfl,r1,rfl⟩
  exact⟨rfl,_,rfl⟩
 rintro σ H' ⟨rfl,r1,rfl⟩
 refine⟨fun v H'=>H=H'∧ϟH 0 50 v,⟨_,rfl,_,rfl,_,_,rfl,rfl,_,_,rfl,rfl,(by show 0 < n+1;omega),rfl,_,rfl,Int.emod_nonneg _ (by omega),?_⟩,?_⟩
 ·have:=Int.emod_lt_of_pos r1 (show 0 < n+1 by omega)
  omega
 rintro _ _ ⟨rfl,m,rfl,m0,m1⟩
 refine⟨fun v H'=>H=H'∧∃m:Int,v=.int m,⟨_,rfl,_,rfl,_,_,rfl,rfl,_,_,rfl,rfl,⟨by show 0 < n+1;omega,by show n+1 < _;omega⟩,rfl,_,rfl⟩,?_⟩
 rintro _ _ ⟨rfl,r2,rfl⟩
 refine⟨_,rfl,_,rfl,by omega,by omega,?_⟩
 let Iv_1:Nat→L2.St→Hp→Prop:=(fun i σ H'=>H=H'∧∃(r:Int) (x:Str) (y:Option V),x.length=i∧σ=[some (.ref a),some (.str g),some (.int n),some (.int r),some (.str x),some (.int m),y])
 refine ϕc Iv_1 ⟨rfl,_,"",_,rfl,rfl⟩ (fun b_ r_ hb_ hr_=>?_) ?_
 ·rintro i σ H' hi ⟨rfl,r3,x,y,hx,rfl⟩
  have hgl:(0:Int) < g.length∧(g.length:Int) < 1073741824:=by omega
  obtain⟨c',hc,hm⟩:=ϡ9 (xs:=cl g) (i:=r3 % (g.length:Int)) (Int.emod_nonneg _ (by omega)) (by rw[ϖ6];exact Int.emod_lt_of_pos _ hgl.1)
  refine⟨_,rfl,_,rfl,_,rfl,_,rfl,g,rfl,szl (by omega),_,_,rfl,rfl,hgl.1,g,_,c',rfl,rfl,szl (by omega),hc,_,_,rfl,rfl,szl (by rw[hx,ϡl];omega),?_⟩
  refine⟨fun v H'=>H=H'∧∃m:Int,v=.int m,⟨_,rfl,_,rfl,g,rfl,szl (by omega),_,_,rfl,rfl,hgl,rfl,_,rfl⟩,?_⟩
  rintro _ _ ⟨rfl,r4,rfl⟩
  exact⟨rfl,_,_,_,by rw[ϕz,hx];rfl,rfl⟩
 rintro σ H' ⟨rfl,r3,x,y,hx,rfl⟩
 exact⟨_,rfl,q x (by omega)⟩
theorem sc_law_follow:FnScope ["_law_scribe","_law_script","_law_most","_law_signs_here","_law_rooms","_law_begins","_law_steps","_law_ends","_law_number","_law_text_here","_law_room","_law_k","_law_on","_law_step"] ["_law_scribe","_law_script","_law_most"] (ϖj ϑH):=⟨rfl,rfl,rfl,by decide +kernel,rfl,by decide +kernel,by decide +kernel⟩
theorem ϵV (B:Bi mg) {ϖe ϖi:Addr} (XB:Xb K mg ϖe ϖi) (ϖJ:Cal P w K mg base "_law_mixed" ["_law_cell","_law_k"] 1 (ϱk)) (ϖz:Cal P w K mg base "_law_cell_at" ["_law_script","_law_k"] 1 (ϵA K)) {f:Addr}{fd:FuncData} (F:Fun K "_law_follow" "_law_follow" ϑH f fd):FnOk P w K mg base CX0 2 f fd ["_law_scribe","_law_script","_law_most"] (ϵN K):=by
 refine F.ok sc_law_follow (fun vs H Q E h=>?_) (fun cdv A outer s H vs Q E hr h=>?_)
 ·obtain⟨v,s,pb,ps,pe,a,ns,n,rfl,_⟩:=h;rfl
 obtain⟨v,s,pb,ps,pe,a,ns,n,rfl,hV,okR,hS,n0,n1,hone,q⟩:=h
 refine⟨_,(ϖd (ϟt (pv 0) (kPG (K:=K) (fun k=>gTup k 5 _) (ϕJ (n:=5) (by rfl) (ϖu (ϖm (i:=3) sc_law_follow.nd rfl (Or.inl rfl)) (ϖu (ϖm (i:=4) sc_law_follow.nd rfl (Or.inl rfl)) (ϖu (ϖm (i:=5) sc_law_follow.nd rfl (Or.inl rfl)) (ϖu (ϖm (i:=6) sc_law_follow.nd rfl (Or.inl rfl)) (ϖu (ϖm (i:=7) sc_law_follow.nd rfl (Or.inl rfl)) ϑV))))))))
   (ϖd (ϖn (i:=8) sc_law_follow.nd rfl (Or.inl rfl) (ϖM ϖJ hr (by decide:1≤1) (by rfl) (ϖa (hs:=ϕj) (ϖM ϖz hr (by decide:1≤1) (by rfl) (ϖa (pv 1) (ϖa ϖh ϖf))) (ϖa ϖh ϖf))))
   (ϖd (ϖn (i:=9) sc_law_follow.nd rfl (Or.inl rfl) ϑ3)
   (ϵa (ϑm (ϖx (kOp (K:=K) rNeD (ϵr hr.units)) (pv 5) (ϖV ϖf) (ϖH _)) (ϖd (ϖn (i:=10) sc_law_follow.nd rfl (Or.inr rfl) (ϖq (kIx (K:=K) rIxT ϖl) (ϖq (kIx (K:=K) rIxL ϑj) (pv 5) ϖh (by intro _ _;rfl)) ϖh (by intro _ _;rfl)))
   (ϖk (ϑs PassesOwn.never (by rfl) (ϰG (by rfl) B.range (ϖa (hs:=ϱj) (ϖt ϑf (pv 8) (ϖt ϑP (pv 2) ϖh)) ϖf)) (ϖm (i:=11) sc_law_follow.nd rfl (Or.inl rfl)) (ϖd (ϑF (i:=12) sc_law_follow.nd rfl (Or.inl rfl) (by rfl) (by rfl) (ϑx (N':=["_law_step","_law_room"]) (js:=[none,some 10]) rfl (by decide +kernel) rfl (by decide +kernel) rfl rfl) (kPI (K:=K) (fun k=>ϑO k _) (ϖR (pv 6))) (fun _ _ _ _ _=>(ϖm (i:=0) (show List.Nodup (["_law_step","_law_room"]:List Str) by decide +kernel) rfl (Or.inl rfl))) (fun _ _ _ _ _=>(ϱX (ϖx ϰ4 (ϖq (kIx (K:=K) rIxT ϖl) (pv 0) ϖh (by intro _ _;rfl)) (pv 1) (ϖH _)))) (fun _ _ _ _ _=>(pv 0)))
   (ϖk (ϑm (ϖx (kOp (K:=K) rNeD (ϵr hr.units)) (pv 12) (ϖV ϖf) (ϖH _)) (ϖd (ϖn (i:=13) sc_law_follow.nd rfl (Or.inl rfl) (ϖq (kIx (K:=K) rIxL ϑj) (pv 12) (ϖt ϑf (ϖM ϖJ hr (by decide:1≤1) (by rfl) (ϖa (pv 8) (ϖa (hs:=ϱj) (ϖt ϑP ϖh (pv 11)) ϖf))) (ϖy (kLen (K:=K)) (by rfl) B.len ϑk (ϖa (pv 12) ϖf))) (by intro _ _;rfl)))
   (ϖd (ϖn (i:=9) sc_law_follow.nd rfl (Or.inl rfl) (ϖt ϑY (pv 9) (ϖq (kIx (K:=K) rIxT ϖl) (pv 13) ϖh (by intro _ _;rfl))))
   (ϖk (ϖn (i:=10) sc_law_follow.nd rfl (Or.inr rfl) (ϖq (kIx (K:=K) rIxT ϖl) (pv 13) ϖh (by intro _ _;rfl)))))) ϖG)))))) ϖG)
   (ϖk (ϖE (pv 9))))))),?_⟩
 have lb:=okR.lb
 have ls:=okR.ls
 have le:=okR.le
 obtain⟨av,xb,xs,xe,rfl,h1,h2,h3,h4,h5,h6,h7⟩:=hV
 refine⟨_,rfl,av,_,rfl,h1,rfl,_,_,rfl,_,_,rfl,_,_,rfl,_,_,rfl,_,_,rfl,rfl,?_⟩
 refine⟨_,rfl,a,ns,2,rfl,hS,(by decide),_,_,rfl,fun nu nu0 _=>?_⟩
 refine⟨fun σ H'=>Same H H'∧∃(x:Str) (x11 x12 x13 x14:Option V),x.length≤50∧σ=[some (.ref av),some (.ref a),some (.int n),some (.str s.signs),some (.int s.rooms),some (.ref pb),some (.ref ps),some (.ref pe),some (.int nu),some (.str x),x11,x12,x13,x14],?_,?_⟩
 ·refine⟨_,rfl,szl (by simp),fun l hl=>?_⟩
  have gl:=ϖg hl (.lst [])
  refine⟨.lst (s.begins.map dMk),.lst [],ϖZ (gl.seq h2) (ϰO (m:=(0,"")) (ϖb (fun _ _=>MkV.mono (Same.grow gl)) h5)),ϖZ (SqL.of ϖc) .nil,?_,_,rfl,?_⟩
  ·have:=ϑz dMk 1 ϰf s.begins
   simp only[deep];omega
  generalize upd H l (.lst [])=H2 at gl⊢
  have hbl:=h5.length
  cases hb:s.begins with
  |nil=>exact iteF ⟨gl,"",_,_,_,_,Nat.zero_le _,rfl⟩
  |cons m0 M0=>
  rw[hb,List.length_cons] at hbl
  refine iteT ?_
  have hm0:s.begins[0]?=some m0:=by rw[hb];rfl
  obtain⟨vb,hc,b,rfl,hb1⟩:=ϰo h5 hm0
  refine⟨_,rfl,pb,xb,_,_,rfl,rfl,gl.seq h2,ϖ9 hc,b,_,_,_,rfl,rfl,Same.seqT gl hb1,rfl,?_⟩
  have t1:=Int.emod_lt_of_pos nu (show 0 < n+1 by omega)
  have t0:=Int.emod_nonneg nu (show n+1≠0 by omega)
  refine⟨_,rfl,_,rfl,_,_,rfl,rfl,_,_,rfl,rfl,(by show 0 < n+1;omega),_,rfl,by omega,by omega,?_⟩
  let Iv_1:Nat→L2.St→Hp→Prop:=(fun i σ H'=>Same H H'∧∃(x:Str) (r:Int) (x12 x13 x14:Option V),x.length≤i∧σ=[some (.ref av),some (.ref a),some (.int n),some (.str s.signs),some (.int s.rooms),some (.ref pb),some (.ref ps),some (.ref pe),some (.int nu),some (.str x),some (.int r),x12,x13,x14])
  refine ϕc Iv_1 ⟨gl,"",_,_,_,_,Nat.zero_le _,rfl⟩ (fun b_ r_ hb_ hr_=>?_) ?_
  ·rintro i σ H3 hi ⟨g3,x,r,x12,x13,x14,hx,rfl⟩
   have hi50:i < 51:=by omega
   have h33:=g3.seq h3
   refine⟨_,rfl,ps,rfl,⟨xs,h33⟩,?_⟩
   refine ϖU (xs:=xs) (fun i ys τ H'=>H3=H'∧(∃ x,τ=[x,some (.int r)])∧i≤xs.length∧ys.length≤i∧∃L,(∀ t∈L,t∈s.steps)∧Paired (StV K H3) L ys) ⟨rfl,⟨_,rfl⟩,Nat.zero_le _,Nat.zero_le _,[],(fun t ht=>nomatch ht),.nil⟩ (fun i ys τ H' z=>z.1▸h33) ?_ ?_
   ·rintro i2 y ys τ _ hy ⟨rfl,⟨x0,rfl⟩,hi2,hyl,L,hL1,hL2⟩
    obtain⟨t,ht,b2,rfl,hb2⟩:=ϖr h6 hy
    have hil:i2 < xs.length:=(List.getElem?_eq_some_iff.mp hy).1
    have hsl:=h6.length
    have hb23:=Same.seqT g3 hb2
    refine⟨_,rfl,_,_,_,_,rfl,rfl,hb23,rfl,_,rfl,rfl,_,rfl,ϑ8 (fun _=>?_) (fun _=>⟨rfl,⟨_,rfl⟩,hil,by omega,L,hL1,hL2⟩)⟩
    refine⟨_,rfl,szl' (by omega),rfl,⟨_,rfl⟩,hil,by rw[List.length_append,List.length_singleton];omega,L++[t],fun t' ht'=>?_,ϖo hL2 (.cons ⟨b2,rfl,hb23⟩ .nil)⟩
    rcases List.mem_append.mp ht' with z|z
    ·exact hL1 t' z
    ·rw[List.mem_singleton.mp z];exact List.mem_of_getElem? ht
   rintro zs τ _ ⟨rfl,_,_,hzl,L,hL1,hL2⟩ l0 hl0
   have g0:=ϖg hl0 (.lst zs)
   have e0:=ϖc (H:=H3) (a:=l0) (o:=.lst zs)
   have hL2:=ϖb (fun _ _=>StV.mono (Same.grow g0)) hL2
   generalize upd H3 l0 (.lst zs)=H4 at g0 e0 hL2⊢
   refine⟨_,rfl,szl (by simp),fun l2 hl2=>?_⟩
   have gl2:=ϖg hl2 (.lst [])
   have hL2:=ϖb (fun _ _=>StV.mono (Same.grow gl2)) hL2
   have e1:=gl2 _ _ e0
   refine⟨.lst (L.map dSt),.lst [],ϖZ (SqL.of e1) (ϡy hL2),ϖZ (SqL.of ϖc) .nil,?_,_,rfl,?_⟩
   ·have:=ϑz dSt 1 ϵE L
    simp only[deep];omega
   have g5:=(g3.trans g0).trans gl2
   generalize upd H4 l2 (.lst [])=H5 at g5 e1 hL2⊢
   have hzL:=hL2.length
   cases hLL:L with
   |nil=>exact iteF ⟨g5,x,r,_,_,_,by omega,rfl⟩
   |cons t00 L0=>
   rw[hLL,List.length_cons] at hzL
   refine iteT ?_
   have hzp:(0:Int) < (zs.length:Int):=by omega
   refine⟨_,rfl,_,rfl,_,rfl,_,_,rfl,rfl,_,_,rfl,fun mx _ _=>?_⟩
   obtain⟨c2,hc2,hm2⟩:=ϡ9 (xs:=zs) (i:=mx % (zs.length:Int)) (Int.emod_nonneg _ (by omega)) (Int.emod_lt_of_pos _ hzp)
   obtain⟨j2,hj2⟩:=List.getElem?_of_mem hm2
   obtain⟨t,ht,b2,rfl,hb2⟩:=ϖr hL2 hj2
   have htw:=hone t (hL1 t (List.mem_of_getElem? ht))
   refine⟨_,rfl,l0,zs,rfl,.inl (SqL.of e1),_,_,rfl,rfl,hzp,l0,zs,_,_,rfl,rfl,SqL.of e1,hc2,?_⟩
   refine⟨_,rfl,_,rfl,b2,_,_,_,rfl,rfl,hb2,rfl,_,_,rfl,rfl,szl (by omega),?_⟩
   refine⟨_,rfl,b2,_,_,_,rfl,rfl,hb2,rfl,?_⟩
   exact⟨g5,_,_,_,_,_,by rw[ϕz];omega,rfl⟩
  rintro σ H3 ⟨g3,x,r,x12,x13,x14,hx,rfl⟩
  exact⟨g3,x,_,_,_,_,by omega,rfl⟩
 rintro σ H' ⟨g2,x,x11,x12,x13,x14,hx,rfl⟩
 exact⟨_,rfl,q x _ hx g2⟩
theorem sc_law_rooms_good:FnScope ["_law_found","_law_signs_here","_law_rooms","_law_begins","_law_steps","_law_ends","_law_numbers","_law_outs","_law_last"] ["_law_found"] (ϖj ϖ2):=⟨rfl,rfl,rfl,by decide +kernel,rfl,by decide +kernel,by decide +kernel⟩
theorem ϱf (B:Bi mg) {ϖe ϖi:Addr} (XB:Xb K mg ϖe ϖi)  {f:Addr}{fd:FuncData} (F:Fun K "_law_rooms_good" "_law_rooms_good" ϖ2 f fd):FnOk P w K mg base CX0 1 f fd ["_law_found"] (ϡd K):=by
 refine F.ok sc_law_rooms_good (fun vs H Q E h=>?_) (fun cdv A outer s H vs Q E hr h=>?_)
 ·obtain⟨v,s,pb,ps,pe,rfl,_⟩:=h;rfl
 obtain⟨v,s,pb,ps,pe,rfl,hN,okR,hPl,hsg,hs9,q⟩:=h
 refine⟨_,(ϖd (ϟt (pv 0) (kPG (K:=K) (fun k=>gTup k 5 _) (ϕJ (n:=5) (by rfl) (ϖu (ϖm (i:=1) sc_law_rooms_good.nd rfl (Or.inr rfl)) (ϖu (ϖm (i:=2) sc_law_rooms_good.nd rfl (Or.inr rfl)) (ϖu (ϖm (i:=3) sc_law_rooms_good.nd rfl (Or.inl rfl)) (ϖu (ϖm (i:=4) sc_law_rooms_good.nd rfl (Or.inl rfl)) (ϖu (ϖm (i:=5) sc_law_rooms_good.nd rfl (Or.inl rfl)) ϑV))))))))
   (ϖd (ϖn (i:=6) sc_law_rooms_good.nd rfl (Or.inl rfl) (ϖt ϝN (ϖt ϝN (ϑR rfl (ϑx (N':=["_law_pair"]) (js:=[none]) rfl (by decide +kernel) rfl (by decide +kernel) rfl rfl) (kPI (K:=K) (fun k=>ϑO k _) (ϖR (ϖt ϝN (pv 3) (pv 5)))) (fun _ _ _ _ _=>(ϖm (i:=0) (show List.Nodup (["_law_pair"]:List Str) by decide +kernel) rfl (Or.inl rfl))) (fun _ _ _ _ _=>ϕs) (fun _ _ _ _ _=>(ϖq (kIx (K:=K) rIxT ϖl) (pv 0) ϖh (by intro _ _;rfl)))) (ϑR rfl (ϑx (N':=["_law_step"]) (js:=[none]) rfl (by decide +kernel) rfl (by decide +kernel) rfl rfl) (kPI (K:=K) (fun k=>ϑO k _) (ϖR (pv 4))) (fun _ _ _ _ _=>(ϖm (i:=0) (show List.Nodup (["_law_step"]:List Str) by decide +kernel) rfl (Or.inl rfl))) (fun _ _ _ _ _=>ϕs) (fun _ _ _ _ _=>(ϖq (kIx (K:=K) rIxT ϖl) (pv 0) ϖh (by intro _ _;rfl))))) (ϑR rfl (ϑx (N':=["_law_step"]) (js:=[none]) rfl (by decide +kernel) rfl (by decide +kernel) rfl rfl) (kPI (K:=K) (fun k=>ϑO k _) (ϖR (pv 4))) (fun _ _ _ _ _=>(ϖm (i:=0) (show List.Nodup (["_law_step"]:List Str) by decide +kernel) rfl (Or.inl rfl))) (fun _ _ _ _ _=>ϕs) (fun _ _ _ _ _=>(ϖq (kIx (K:=K) rIxT ϖl) (pv 0) ϖh (by intro _ _;rfl))))))
   (ϖd (ϑm (PW.pt (ϱp (ϖx ϵl (ϖy (kLen (K:=K)) (by rfl) B.len ϑk (ϖa (ϑR rfl (ϑx (N':=["_law_number","_law_rooms"]) (js:=[none,some 2]) rfl (by decide +kernel) rfl (by decide +kernel) rfl rfl) (kPI (K:=K) (fun k=>ϑO k _) (ϖR (pv 6))) (fun _ _ _ _ _=>(ϖm (i:=0) (show List.Nodup (["_law_number","_law_rooms"]:List Str) by decide +kernel) rfl (Or.inl rfl))) (fun _ _ _ _ _=>(ϱX (PW.pt (ϱp (ϖx op_lt (pv 0) ϖh (ϖH _)) (ϰv (ϖx op_ge (pv 0) (pv 1) (ϖH _))))))) (fun _ _ _ _ _=>(pv 0))) ϖf)) ϖh (ϖH _)) (ϰv (ϖx ϵl (ϖy (kLen (K:=K)) (by rfl) B.len ϑk (ϖa (pv 3) ϖf)) ϖh (ϖH _))))) (ϖk (ϖE ϱg)) ϖG)
   (ϖd (ϑm (ϖx ϵl (ϖy (kLen (K:=K)) (by rfl) B.len ϑk (ϖa (ϑR rfl (ϑx (N':=["_law_step","_law_signs_here"]) (js:=[none,some 1]) rfl (by decide +kernel) rfl (by decide +kernel) rfl rfl) (kPI (K:=K) (fun k=>ϑO k _) (ϖR (pv 4))) (fun _ _ _ _ _=>(ϖm (i:=0) (show List.Nodup (["_law_step","_law_signs_here"]:List Str) by decide +kernel) rfl (Or.inl rfl))) (fun _ _ _ _ _=>(ϱX (PW.pt (ϱp (ϖx ϲQ (ϖq (kIx (K:=K) rIxT ϖl) (pv 0) ϖh (by intro _ _;rfl)) (pv 1) rfl) (ϰv (ϖx ϛL (ϖy ϑn (by rfl) B.len ϑk (ϖa (hs:=ϖQ) (ϖq (kIx (K:=K) rIxT ϖl) (pv 0) ϖh (by intro _ _;rfl)) ϖf)) ϖh (ϖH _))))))) (fun _ _ _ _ _=>(pv 0))) ϖf)) ϖh (ϖH _)) (ϖk (ϖE ϱg)) ϖG)
   (ϖd (ϑF (i:=7) sc_law_rooms_good.nd rfl (Or.inl rfl) (by rfl) (by rfl) (ϑx (N':=["_law_step"]) (js:=[none]) rfl (by decide +kernel) rfl (by decide +kernel) rfl rfl) (kPI (K:=K) (fun k=>ϑO k _) (ϖR (pv 4))) (fun _ _ _ _ _=>(ϖm (i:=0) (show List.Nodup (["_law_step"]:List Str) by decide +kernel) rfl (Or.inl rfl))) (fun _ _ _ _ _=>ϕs) (fun _ _ _ _ _=>(ϑl (ϖa (hs:=ϖQ) (ϖq (kIx (K:=K) rIxT ϖl) (pv 0) ϖh (by intro _ _;rfl)) (ϖa (hs:=ϖQ) (ϖq (kIx (K:=K) rIxT ϖl) (pv 0) ϖh (by intro _ _;rfl)) ϖf)))))
   (ϖd (ϑF (i:=8) sc_law_rooms_good.nd rfl (Or.inl rfl) (by rfl) (by rfl) (ϑx (N':=["_law_pair"]) (js:=[none]) rfl (by decide +kernel) rfl (by decide +kernel) rfl rfl) (kPI (K:=K) (fun k=>ϑO k _) (ϖR (pv 5))) (fun _ _ _ _ _=>(ϖm (i:=0) (show List.Nodup (["_law_pair"]:List Str) by decide +kernel) rfl (Or.inl rfl))) (fun _ _ _ _ _=>ϕs) (fun _ _ _ _ _=>(ϖq (kIx (K:=K) rIxT ϖl) (pv 0) ϖh (by intro _ _;rfl))))
   (ϖk (ϖE (ϝn (ϵS ϰ4 (ϖy call_len_set (by rfl) B.len ϑk (ϖa (hs:=ϕj) (ϑy (ϵ0 hr (by rfl)) (by rfl) B.set ϟW (ϖa (pv 7) ϖf)) ϖf)) (ϖy (kLen (K:=K)) (by rfl) B.len ϑk (ϖa (pv 7) ϖf)) (ϖH _)) (ϝe (ϵS ϰ4 (ϖy call_len_set (by rfl) B.len ϑk (ϖa (hs:=ϕj) (ϑy (ϵ0 hr (by rfl)) (by rfl) B.set ϟW (ϖa (pv 8) ϖf)) ϖf)) (ϖy (kLen (K:=K)) (by rfl) B.len ϑk (ϖa (pv 8) ϖf)) (ϖH _)))))))))))),?_⟩
 obtain⟨a,xb,xs,xe,rfl,h1,h2,h3,h4,h5,h6,h7⟩:=hN
 have l5:s.begins.length=xb.length:=h5.length
 have l6:s.steps.length=xs.length:=h6.length
 have l7:s.ends.length=xe.length:=h7.length
 have ob:=okR.lb
 have os:=okR.ls
 have oe:=okR.le
 refine⟨_,rfl,a,_,rfl,h1,rfl,_,_,rfl,_,_,rfl,_,_,rfl,_,_,rfl,_,_,rfl,rfl,?_⟩
 refine⟨_,rfl,_,rfl,pb,pe,xb,xe,rfl,rfl,h2,h4,szl (by omega),fun p hp=>⟨p,rfl,⟨_,SqL.of ϖc⟩,?_⟩⟩
 have gp:=ϖg hp (.lst (xb++xe))
 have ep:=ϖc (H:=H) (a:=p) (o:=.lst (xb++xe))
 have hM:Paired (MkV K _) (s.begins++s.ends) (xb++xe):=ϖb (fun _ _=>MkV.mono (Same.grow gp)) (ϖo h5 h7)
 have lM:=hM.length
 rw[List.length_append] at lM
 generalize upd H p (.lst (xb++xe))=H1 at gp ep hM⊢
 refine ϖU (xs:=xb++xe) (fun i ys τ H'=>H1=H'∧(∃ y,τ=[y])∧i≤(xb++xe).length∧ys=(((s.begins++s.ends).take i).map (·.1)).map V.int) ⟨rfl,⟨_,rfl⟩,Nat.zero_le _,rfl⟩ (fun i ys τ H' z=>z.1▸SqL.of ep) ?_ ?_
 ·rintro i y ys τ _ hy ⟨rfl,⟨y0,rfl⟩,hi,rfl⟩
  obtain⟨m,hm,b,rfl,hb⟩:=ϖr hM hy
  have hil:i < (xb++xe).length:=(List.getElem?_eq_some_iff.mp hy).1
  refine⟨_,rfl,b,_,_,_,rfl,rfl,hb,rfl,szl' (by rw[List.length_map,List.length_map,List.length_take];omega),rfl,⟨_,rfl⟩,hil,?_⟩
  rw[ϖA hm,List.map_append,List.map_append];rfl
 rintro ys τ _ ⟨rfl,_,_,rfl⟩ q1 hq1
 rw[← hM.length,List.take_length]
 generalize hN1:(s.begins++s.ends).map (·.1)=N1
 have lN1:N1.length=s.begins.length+s.ends.length:=by rw[← hN1,List.length_map,List.length_append]
 have g1:=gp.trans (ϖg hq1 (.lst (N1.map V.int)))
 have e1:=ϖc (H:=H1) (a:=q1) (o:=.lst (N1.map V.int))
 generalize upd H1 q1 (.lst (N1.map V.int))=H2 at g1 e1⊢
 refine⟨_,rfl,ps,rfl,⟨xs,SqL.of (g1 _ _ h3)⟩,?_⟩
 refine ϖU (xs:=xs) (fun i ys τ H'=>H2=H'∧(∃ y,τ=[y])∧i≤xs.length∧ys=((s.steps.take i).map (·.1)).map V.int) ⟨rfl,⟨_,rfl⟩,Nat.zero_le _,rfl⟩ (fun i ys τ H' z=>z.1▸SqL.of (g1 _ _ h3)) ?_ ?_
 ·rintro i y ys τ _ hy ⟨rfl,⟨y0,rfl⟩,hi,rfl⟩
  obtain⟨m,hm,b,rfl,hb⟩:=ϖr h6 hy
  have hil:i < xs.length:=(List.getElem?_eq_some_iff.mp hy).1
  refine⟨_,rfl,b,_,_,_,rfl,rfl,Same.seqT g1 hb,rfl,szl' (by rw[List.length_map,List.length_map,List.length_take];omega),rfl,⟨_,rfl⟩,hil,?_⟩
  rw[ϖA hm,List.map_append,List.map_append];rfl
 rintro ys τ _ ⟨rfl,_,_,rfl⟩ q2 hq2
 rw[← l6,List.take_length]
 generalize hN2:s.steps.map (·.1)=N2
 have lN2:N2.length=s.steps.length:=by rw[← hN2,List.length_map]
 have k2:=ϖg hq2 (.lst (N2.map V.int))
 have g2:=g1.trans k2
 have e1:=k2 _ _ e1
 have e2:=ϖc (H:=H2) (a:=q2) (o:=.lst (N2.map V.int))
 generalize upd H2 q2 (.lst (N2.map V.int))=H3 at g2 e1 e2⊢
 refine⟨q1,q2,_,_,rfl,rfl,e1,e2,szl (by rw[List.length_map,List.length_map];omega),fun q3 hq3=>?_⟩
 rw[← List.map_append]
 have g3:=g2.trans (ϖg hq3 (.lst ((N1++N2).map V.int)))
 have e3:=ϖc (H:=H3) (a:=q3) (o:=.lst ((N1++N2).map V.int))
 generalize upd H3 q3 (.lst ((N1++N2).map V.int))=H4 at g3 e3⊢
 refine⟨_,rfl,ps,rfl,⟨xs,SqL.of (g3 _ _ h3)⟩,?_⟩
 refine ϖU (xs:=xs) (fun i ys τ H'=>H4=H'∧(∃ y,τ=[y])∧i≤xs.length∧ys=((s.steps.take i).map (·.2.2.2)).map V.int) ⟨rfl,⟨_,rfl⟩,Nat.zero_le _,rfl⟩ (fun i ys τ H' z=>z.1▸SqL.of (g3 _ _ h3)) ?_ ?_
 ·rintro i y ys τ _ hy ⟨rfl,⟨y0,rfl⟩,hi,rfl⟩
  obtain⟨m,hm,b,rfl,hb⟩:=ϖr h6 hy
  have hil:i < xs.length:=(List.getElem?_eq_some_iff.mp hy).1
  refine⟨_,rfl,b,_,_,_,rfl,rfl,Same.seqT g3 hb,rfl,szl' (by rw[List.length_map,List.length_map,List.length_take];omega),rfl,⟨_,rfl⟩,hil,?_⟩
  rw[ϖA hm,List.map_append,List.map_append];rfl
 rintro ys τ _ ⟨rfl,_,_,rfl⟩ q4 hq4
 rw[← l6,List.take_length]
 generalize hN3:s.steps.map (·.2.2.2)=N3
 have lN3:N3.length=s.steps.length:=by rw[← hN3,List.length_map]
 have k4:=ϖg hq4 (.lst (N3.map V.int))
 have g4:=g3.trans k4
 have e3:=k4 _ _ e3
 have e4:=ϖc (H:=H4) (a:=q4) (o:=.lst (N3.map V.int))
 generalize upd H4 q4 (.lst (N3.map V.int))=H5 at g4 e3 e4⊢
 refine⟨q3,q4,_,_,rfl,rfl,e3,e4,szl (by rw[List.length_map,List.length_map,List.length_append];omega),fun q5 hq5=>?_⟩
 rw[← List.map_append]
 have hin:∀n∈N1++N2++N3,0≤n∧n < s.rooms:=fun n hn=>by
  rcases List.mem_append.mp hn with hn|hn
  ·rcases List.mem_append.mp hn with hn|hn
   ·rw[← hN1] at hn
    obtain⟨m,hm,rfl⟩:=List.mem_map.mp hn
    rcases List.mem_append.mp hm with hm|hm
    ·exact okR.mb m hm
    ·exact okR.me m hm
   ·rw[← hN2] at hn
    obtain⟨m,hm,rfl⟩:=List.mem_map.mp hn
    exact⟨(okR.ms m hm).1,(okR.ms m hm).2.1⟩
  ·rw[← hN3] at hn
   obtain⟨m,hm,rfl⟩:=List.mem_map.mp hn
   exact(okR.ms m hm).2.2
 generalize N1++N2++N3=NN at hin⊢
 have g5:=g4.trans (ϖg hq5 (.lst (NN.map V.int)))
 have e5:=ϖc (H:=H5) (a:=q5) (o:=.lst (NN.map V.int))
 generalize upd H5 q5 (.lst (NN.map V.int))=H6 at g5 e5⊢
 refine⟨_,rfl,q5,rfl,⟨_,SqL.of e5⟩,?_⟩
 refine ϖU (xs:=NN.map V.int) (fun i ys τ H'=>H6=H'∧(∃ y,τ=[y,some (.int s.rooms)])∧ys=[]) ⟨rfl,⟨_,rfl⟩,rfl⟩ (fun i ys τ H' z=>z.1▸SqL.of e5) ?_ ?_
 ·rintro i y ys τ _ hy ⟨rfl,⟨y0,rfl⟩,rfl⟩
  rw[List.getElem?_map] at hy
  obtain⟨n,hn,rfl⟩:=Option.map_eq_some_iff.mp hy
  obtain⟨n0,n1⟩:=hin n (List.mem_of_getElem? hn)
  refine⟨_,rfl,_,_,rfl,rfl,_,rfl,ϑ8 (fun c=>absurd c (by omega)) (fun _=>?_)⟩
  exact⟨_,rfl,_,rfl,_,_,rfl,rfl,_,rfl,ϑ8 (fun c=>absurd c (by omega)) (fun _=>⟨rfl,⟨_,rfl⟩,rfl⟩)⟩
 rintro ys τ _ ⟨rfl,_,rfl⟩ q6 hq6
 have g6:=g5.trans (ϖg hq6 (.lst []))
 have e6:=ϖc (H:=H6) (a:=q6) (o:=.lst [])
 generalize upd H6 q6 (.lst [])=H7 at g6 e6⊢
 refine⟨q6,_,rfl,.inl (SqL.of e6),_,_,rfl,rfl,_,rfl,ϑ8 (fun c=>absurd c (by simp)) (fun _=>?_)⟩
 have pb1:=(plain_iff.mp hPl).1
 refine⟨_,rfl,pb,_,rfl,.inl (SqL.of (g6 _ _ h2)),_,_,rfl,rfl,_,rfl,ϑ8 (fun c=>absurd c (by omega)) (fun _=>?_)⟩
 refine⟨_,rfl,ps,rfl,⟨xs,SqL.of (g6 _ _ h3)⟩,?_⟩
 refine ϖU (xs:=xs) (fun i ys τ H'=>H7=H'∧(∃ y,τ=[y,some (.str s.signs)])∧ys=[]) ⟨rfl,⟨_,rfl⟩,rfl⟩ (fun i ys τ H' z=>z.1▸SqL.of (g6 _ _ h3)) ?_ ?_
 ·rintro i y ys τ _ hy ⟨rfl,⟨y0,rfl⟩,rfl⟩
  obtain⟨t,ht,b,rfl,hb⟩:=ϖr h6 hy
  obtain⟨c,hc,ec⟩:=hsg t (List.mem_of_getElem? ht)
  have hb7:=Same.seqT g6 hb
  rw[ec] at hb7
  refine⟨_,rfl,b,_,_,_,rfl,rfl,hb7,rfl,_,rfl,_,_,rfl,rfl,_,rfl,?_⟩
  rw[in_one,decide_eq_true hc]
  refine iteF ?_
  exact⟨_,rfl,b,_,_,_,rfl,rfl,hb7,rfl,_,rfl,szl (by show 1≤100000;decide),rfl,_,rfl,ϰX (fun z=>absurd rfl z) (fun _=>⟨rfl,⟨_,rfl⟩,rfl⟩)⟩
 rintro ys τ _ ⟨rfl,_,rfl⟩ q7 hq7
 have g7:=g6.trans (ϖg hq7 (.lst []))
 have e7:=ϖc (H:=H7) (a:=q7) (o:=.lst [])
 generalize upd H7 q7 (.lst [])=H8 at g7 e7⊢
 refine⟨q7,_,rfl,.inl (SqL.of e7),_,_,rfl,rfl,_,rfl,ϑ8 (fun c=>absurd c (by simp)) (fun _=>?_)⟩
 have lo:(outs s).length=xs.length:=by unfold outs;rw[List.length_map];exact h6.length
 have le:(ϑw s).length=xe.length:=by unfold ϑw;rw[List.length_map];exact h7.length
 refine⟨_,rfl,ps,rfl,⟨xs,SqL.of (g7 _ _ h3)⟩,?_⟩
 refine ϖU (xs:=xs) (fun i ys τ H'=>Same H H'∧(∃ x,τ=[x])∧i≤999∧ys.length=i∧Paired (KeyV K H') ((outs s).take i) ys) ⟨g7,⟨_,rfl⟩,Nat.zero_le _,rfl,.nil⟩ (fun i ys τ H' z=>z.1.seq (SqL.of h3)) ?_ ?_
 ·rintro i x ys τ H' hx ⟨g,⟨y,rfl⟩,hi,hy,hP⟩
  obtain⟨t,ht,b,rfl,hb⟩:=ϖr h6 hx
  have hb':=(Same.grow g).seqT hb
  have hil:i < xs.length:=(List.getElem?_eq_some_iff.mp hx).1
  refine⟨_,rfl,_,_,_,_,rfl,rfl,hb',rfl,_,rfl,_,_,_,_,rfl,rfl,hb',rfl,(by show 2≤sizeLine;decide),fun p hp=>⟨szl' (by omega),g.trans (ϖg hp _),⟨_,rfl⟩,by omega,by rw[List.length_append];show ys.length+1=i+1;omega,?_⟩⟩
  have e:(outs s).take (i+1)=(outs s).take i++[[Sum.inl t.1,Sum.inr t.2.1]]:=by
   have:(outs s)[i]?=some [Sum.inl t.1,Sum.inr t.2.1]:=by unfold outs;rw[List.getElem?_map,ht];rfl
   rw[List.take_add_one,this];rfl
  rw[e]
  exact ϖo (ϖb (fun _ _=>KeyV.mono (ϕb hp _)) hP) (.cons ⟨p,rfl,SqT.of ϖc⟩ .nil)
 rintro ys τ H9 ⟨g9,_,_,hy1,hP1⟩ p hp
 rw[← lo,List.take_length] at hP1
 have gp:=ϖg hp (.lst ys)
 have ep:=ϖc (H:=H9) (a:=p) (o:=.lst ys)
 have g9:=g9.trans gp
 have hP1:=ϖb (fun _ _=>KeyV.mono (Same.grow gp)) hP1
 generalize upd H9 p (.lst ys)=H10 at ep g9 hP1⊢
 have h7':Paired (MkV K H10) s.ends xe:=ϖb (fun _ _=>MkV.mono (Same.grow g9)) h7
 refine⟨_,rfl,pe,rfl,⟨xe,SqL.of (g9 _ _ h4)⟩,?_⟩
 refine ϖU (xs:=xe) (fun i ys τ H'=>H10=H'∧(∃ x,τ=[x])∧i≤999∧ys.length=i∧ys=((ϑw s).take i).map kV) ⟨rfl,⟨_,rfl⟩,Nat.zero_le _,rfl,rfl⟩ (fun i ys τ H' z=>z.1▸SqL.of (g9 _ _ h4)) ?_ ?_
 ·rintro i x ys τ H' hx ⟨rfl,⟨y,rfl⟩,hi,hy,hP⟩
  obtain⟨t,ht,b,rfl,hb⟩:=ϖr h7' hx
  have hil:i < xe.length:=(List.getElem?_eq_some_iff.mp hx).1
  refine⟨_,rfl,_,_,_,_,rfl,rfl,hb,rfl,szl' (by omega),rfl,⟨_,rfl⟩,by omega,by rw[List.length_append];show ys.length+1=i+1;omega,?_⟩
  have e:(ϑw s).take (i+1)=(ϑw s).take i++[Sum.inl t.1]:=by
   have:(ϑw s)[i]?=some (Sum.inl t.1):=by unfold ϑw;rw[List.getElem?_map,ht];rfl
   rw[List.take_add_one,this];rfl
  rw[e,List.map_append,hP]
  rfl
 rintro zs τ _ ⟨rfl,_,_,hy3,hP3⟩ p3 hp3
 rw[← le,List.take_length] at hP3
 subst hP3
 have gz:=ϖg hp3 (.lst ((ϑw s).map kV))
 have ez:=ϖc (H:=H10) (a:=p3) (o:=.lst ((ϑw s).map kV))
 have g10:=g9.trans gz
 have ep:=gz _ _ ep
 have hP1:=ϖb (fun _ _=>KeyV.mono (Same.grow gz)) hP1
 generalize upd H10 p3 (.lst ((ϑw s).map kV))=H11 at ez g10 ep hP1⊢
 have hle1:=ϕv (outs s).reverse
 have hle2:=ϕv (ϑw s).reverse
 rw[List.length_reverse] at hle1 hle2
 have nd1:(outs s).Nodup:=outs_nd.mpr (plain_iff.mp hPl).2.1
 have nd2:(ϑw s).Nodup:=lasts_nd.mpr (plain_iff.mp hPl).2.2
 have e1:decide (V.int ((ϑv (outs s).reverse:Nat):Int)=V.int (ys.length:Int))=true:=by rw[ϟb,← hP1.length,ϰN];exact decide_eq_true nd1
 have e2:decide (V.int ((ϑv (ϑw s).reverse:Nat):Int)=V.int (((ϑw s).map kV).length:Int))=true:=by rw[ϟb,List.length_map,ϰN];exact decide_eq_true nd2
 refine⟨_,rfl,.inl ⟨_,ys,outs s,rfl,SqL.of ep,hP1,by omega,fun d hd=>?_⟩⟩
 have gd:=ϖg hd (SetN d (ϑv (outs s).reverse))
 refine⟨_,_,rfl,ϖc,by omega,_,rfl,p,ys,rfl,.inl (gd.seq (SqL.of ep)),rfl,_,rfl,?_⟩
 rw[e1]
 have g11:=g10.trans gd
 have ez:=gd _ _ ez
 generalize upd H11 d (SetN d (ϑv (outs s).reverse))=H12 at g11 ez⊢
 refine iteT ?_
 refine⟨_,rfl,.inr ⟨_,ϑw s,rfl,SqL.of ez,by omega,fun d2 hd2=>?_⟩⟩
 have gd2:=ϖg hd2 (SetN d2 (ϑv (ϑw s).reverse))
 refine⟨_,_,rfl,ϖc,by omega,_,rfl,p3,_,rfl,.inl (gd2.seq (SqL.of ez)),rfl,?_⟩
 show Q (.bl (decide (V.int ((ϑv (ϑw s).reverse:Nat):Int)=V.int (((ϑw s).map kV).length:Int)))) _
 rw[e2]
 exact q _ (g11.trans gd2)
theorem sc_law:FnScope ["_law_script","_law_number","_law_one","_law_other","_law_handed","_law_found","_law_text_here","_law_due","_law_kept","_law_k"] ["_law_script"] (ϖj ϵX):=⟨rfl,rfl,rfl,by decide +kernel,rfl,by decide +kernel,by decide +kernel⟩
theorem ok_law (B:Bi mg) {ϖe ϖi:Addr} (XB:Xb K mg ϖe ϖi) (ϖJ:Cal P w K mg base "_law_mixed" ["_law_cell","_law_k"] 1 (ϱk)) (ϕP:Cal P w K mg base "_law_plain" ["_law_script","_law_salt","_law_most","_law_signs_here"] 3 (ϡo K)) (ϑM:Cal1 P w K mg base "joined_behind" ["one","other"] 6 (ϝj K ϖe ϖi)) (ϕH:Cal P w K mg base "_law_copy" ["_law_scribe"] 1 (ϲb K)) (ϖz:Cal P w K mg base "_law_cell_at" ["_law_script","_law_k"] 1 (ϵA K)) (ϰq:Cal P w K mg base "_law_signs" ["_law_number"] 1 (ϵ4)) (ϱa:Cal P w K mg base "_law_text" ["_law_script","_law_signs_here","_law_most"] 2 (ϡb K)) (ϕ3:Cal P w K mg base "_law_follow" ["_law_scribe","_law_script","_law_most"] 2 (ϵN K)) (ϕY:Cal P w K mg base "_law_run" ["_law_scribe","_law_text_here"] 1 (ϟ4 K)) (ϑL:Cal P w K mg base "_law_is_scribe" ["_law_found"] 2 (ϡs K)) (ϑ7:Cal P w K mg base "_law_rooms_good" ["_law_found"] 1 (ϡd K)) {f:Addr}{fd:FuncData} (F:Fun K "law" "law" ϵX f fd):FnOk P w K mg base CX0 7 f fd ["_law_script"] (ϛh K):=by
 refine F.ok sc_law (fun vs H Q E h=>?_) (fun cdv A outer s H vs Q E hr h=>?_)
 ·obtain⟨a,ns,rfl,_⟩:=h;rfl
 obtain⟨a,ns,rfl,hS,h63,q⟩:=h
 refine⟨_,(ϖd (ϖn (i:=1) sc_law.nd rfl (Or.inl rfl) (ϖM ϖJ hr (by decide:1≤6) (by rfl) (ϖa (hs:=ϕj) (ϖM ϖz hr (by decide:1≤6) (by rfl) (ϖa (pv 0) (ϖa ϖh ϖf))) (ϖa ϖh ϖf))))
   (ϖd (ϖn (i:=2) sc_law.nd rfl (Or.inl rfl) (ϖM ϕP hr (by decide:3≤6) (by rfl) (ϖa (pv 0) (ϖa ϖh (ϖa ϖh (ϖa (hs:=ϕj) (ϖM ϰq hr (by decide:1≤6) (by rfl) (ϖa (pv 1) ϖf)) ϖf))))))
   (ϖd (ϖn (i:=3) sc_law.nd rfl (Or.inl rfl) (ϖM ϕP hr (by decide:3≤6) (by rfl) (ϖa (pv 0) (ϖa ϖh (ϖa ϖh (ϖa (hs:=ϖQ) (ϖq (kIx (K:=K) ϝE ϵ2) (ϖV (ϖa ϑ3 (ϖa ϑ3 (ϖa ϑ3 (ϖa ϑ3 (ϖa ϑ3 (ϖa ϑ3 ϖf))))))) (ϖt ϑf (pv 1) ϖh) (by intro _ _;rfl)) ϖf))))))
   (ϖd (ϖn (i:=4) sc_law.nd rfl (Or.inl rfl) (ϖV (ϖa (hs:=ϕj) (ϖM ϕH hr (by decide:1≤6) (by rfl) (ϖa (pv 2) ϖf)) (ϖa (hs:=ϕj) (ϖM ϕH hr (by decide:1≤6) (by rfl) (ϖa (pv 3) ϖf)) ϖf))))
   (ϖd (ϖn (i:=5) sc_law.nd rfl (Or.inl rfl) (ϲ1 ϑM hr (by decide:6≤6) (by rfl) ϝK (ϖa (hs:=ϖQ) (ϖq (kIx (K:=K) rIxL ϑj) (pv 4) ϖh (by intro _ _;rfl)) (ϖa (hs:=ϖQ) (ϖq (kIx (K:=K) rIxL ϑj) (pv 4) ϖh (by intro _ _;rfl)) ϖf))))
   (ϖd (ϑm (PW.pt (ϱp (ϕ1 (ϕ4 (ϖM ϑL hr (by decide:2≤6) (by rfl) (ϖa (pv 5) ϖf)))) (ϱp (ϖx ϛL (ϖq (kIx (K:=K) rIxT ϖl) (pv 5) ϖh (by intro _ _;rfl)) (ϖq (kIx (K:=K) rIxT ϖl) (pv 2) ϖh (by intro _ _;rfl)) (ϖH _)) (ϰv (ϕ1 (ϕ4 (ϖM ϑ7 hr (by decide:1≤6) (by rfl) (ϖa (pv 5) ϖf)))))))) (ϖk (ϖE ϱg)) ϖG)
   (ϖd (ϑm (PW.pt (ϱp (ϖx op_lt (ϖq (kIx (K:=K) rIxT ϖl) (pv 5) ϖh (by intro _ _;rfl)) ϖh (ϖH _)) (ϰv (ϖx ϵl (ϖq (kIx (K:=K) rIxT ϖl) (pv 5) ϖh (by intro _ _;rfl)) (ϖt ϕu (ϖq (kIx (K:=K) rIxT ϖl) (pv 2) ϖh (by intro _ _;rfl)) (ϖq (kIx (K:=K) rIxT ϖl) (pv 3) ϖh (by intro _ _;rfl))) (ϖH _))))) (ϖk (ϖE ϱg)) ϖG)
   (ϖd (ϑs PassesOwn.never (by rfl) (kPI (K:=K) (fun k=>ϑO k _) (ϖR (ϖV (ϖa (hs:=ϕj) (ϖM ϱa hr (by decide:2≤6) (by rfl) (ϖa (pv 0) (ϖa (hs:=ϖQ) (ϖq (kIx (K:=K) rIxT ϖl) (pv 2) ϖh (by intro _ _;rfl)) (ϖa ϖh ϖf)))) (ϖa (hs:=ϕj) (ϖM ϕ3 hr (by decide:2≤6) (by rfl) (ϖa (pv 2) (ϖa (pv 0) (ϖa ϖh ϖf)))) ϖf))))) (ϖm (i:=6) sc_law.nd rfl (Or.inl rfl)) (ϖd (ϖn (i:=7) sc_law.nd rfl (Or.inl rfl) (ϖM ϕY hr (by decide:1≤6) (by rfl) (ϖa (pv 2) (ϖa (pv 6) ϖf))))
   (ϵa (ϑm (ϖx ϡr (pv 7) ϰQ (ϖH _)) (ϖk (ϖn (i:=7) sc_law.nd rfl (Or.inl rfl) (ϖM ϕY hr (by decide:1≤6) (by rfl) (ϖa (pv 3) (ϖa (pv 7) ϖf))))) ϖG)
   (ϖk (ϑm (ϖx (kOp (K:=K) rNeD (ϵr hr.units)) (ϖM ϕY hr (by decide:1≤6) (by rfl) (ϖa (pv 5) (ϖa (pv 6) ϖf))) (pv 7) (ϖH _)) (ϖk (ϖE ϱg)) ϖG)))))
   (ϖd (ϖn (i:=8) sc_law.nd rfl (Or.inl rfl) (ϖM ϕH hr (by decide:1≤6) (by rfl) (ϖa (pv 5) ϖf)))
   (ϖd (ϑs PassesOwn.never (by rfl) (ϱR (by rfl) B.range (ϖa ϖh (ϖa ϖh ϖf))) (ϖm (i:=9) sc_law.nd rfl (Or.inl rfl)) (ϖk (ϑ6 (kPE (K:=K) (fun k=>tBM0 k _ _ _) (pe_bm0 PySem.F.plainAttrs_list PySem.F.slot_list_clear PySem.F.type_list_clear ϛF (ϖq (kIx (K:=K) rIxT ϖl) (pv 5) (pv 9) (by intro _ _;rfl)))))))
   (ϖd (ϑm (ϖx (kOp (K:=K) rNeD (ϵr hr.units)) (pv 4) (ϖV (ϖa (pv 2) (ϖa (pv 3) ϖf))) (ϖH _)) (ϖk (ϖE ϱg)) ϖG)
   (ϖd (ϖn (i:=5) sc_law.nd rfl (Or.inl rfl) (ϲ1 ϑM hr (by decide:6≤6) (by rfl) ϝK (ϖa (hs:=ϖQ) (ϖq (kIx (K:=K) rIxL ϑj) (pv 4) ϖh (by intro _ _;rfl)) (ϖa (hs:=ϖQ) (ϖq (kIx (K:=K) rIxL ϑj) (pv 4) ϖh (by intro _ _;rfl)) ϖf))))
   (ϖk (ϖE (ϝn (ϖM ϑL hr (by decide:2≤6) (by rfl) (ϖa (pv 5) ϖf)) (ϝe (ϵS (kOp (K:=K) rEqD (ϲV hr.units)) (pv 5) (pv 8) (ϖH _)))))))))))))))))),?_⟩
 refine⟨_,rfl,a,ns,0,rfl,hS,by decide,_,_,rfl,fun n0 hn0 hn1=>?_⟩
 refine⟨_,rfl,_,rfl,n0,rfl,fun g H1 hg g1=>?_⟩
 refine⟨a,ns,1000,6,g,rfl,g1.seq hS,h63,by decide,by decide,by decide,by decide,hg,fun v1 H2 s pb ps pe sgs ⟨g2,hV1,ok1,r0,r1,sg1,sg2,sg3,sg4⟩ rm1=>?_⟩
 have g12:=g1.trans g2
 refine⟨_,rfl,szl (by simp),fun p hp=>⟨_,rfl,_,_,rfl,rfl,pz,p,_,_,rfl,rfl,SqL.of ϖc,by omega,(by show n0 % 6 < 6;omega),isSgn,sg_six,?_⟩⟩
 rintro _⟨g',rfl,hg'⟩
 have gp:=ϖg hp (.lst [V.str "a",V.str "ab",V.str "ba",V.str "abc",V.str "zba",V.str "abxyz"])
 have g13:=g12.trans gp
 have hV1:=hV1.mono gp
 generalize upd H2 p (.lst [V.str "a",V.str "ab",V.str "ba",V.str "abc",V.str "zba",V.str "abxyz"])=H3 at g13 hV1⊢
 refine⟨a,ns,3000,5,g',rfl,g13.seq hS,h63,by decide,by decide,by decide,by decide,hg',fun v2 H4 u qb qs qe sgu ⟨g4,hV2,ok2,s0,s1,_,_,_,_⟩ rm2=>?_⟩
 have hV1:=hV1.mono g4
 have g14:=g13.trans g4
 have okR:OkR s:=okS_R ok1 r1
 have okU:OkR u:=okS_R ok2 s1
 have hPl:=ϟq ok1
 have hPu:=ϟq ok2
 have wl:WdL s 40:=⟨fun m hm=>(ok1.mb m hm).2.2.1,fun t ht=>(ok1.ms t ht).2.2.2.1.1,fun m hm=>(ok1.me m hm).2.2.1⟩
 have wu:WdL u 40:=⟨fun m hm=>(ok2.mb m hm).2.2.1,fun t ht=>(ok2.ms t ht).2.2.2.1.1,fun m hm=>(ok2.me m hm).2.2.1⟩
 have jk:JOk s u:=⟨okR,okU,ϲm ok1,ϲm ok2,by have:=ok1.ls;omega,by have:=ok2.ls;omega,r0,s0⟩
 have hprod:s.rooms*u.rooms≤30:=by
  have h1:s.rooms*u.rooms≤6*u.rooms:=Int.mul_le_mul_of_nonneg_right rm1 s0
  omega
 have hprod0:0≤s.rooms*u.rooms:=Int.mul_nonneg r0 s0
 have hsg:∀t∈s.steps,∃c∈cl s.signs,t.2.1=(⟨#[c]⟩:Str):=fun t ht=>(ok1.ms t ht).2.2.1
 have hone:∀t∈s.steps,t.2.1.length≤1:=fun t ht=>by
  obtain⟨c,_,e1⟩:=hsg t ht
  rw[e1];exact Nat.le_refl 1
 refine⟨_,rfl,v1,s,pb,ps,pe,rfl,hV1,fun w1 H5 pb1 ps1 pe1 g5 hN1 _=>?_⟩
 refine⟨_,rfl,v2,u,qb,qs,qe,rfl,hV2.mono g5,fun w2 H6 pb2 ps2 pe2 g6 hN2 _=>⟨szl (by simp),fun lh hlh=>?_⟩⟩
 have gl:=ϖg hlh (.lst [w1,w2])
 have eh:=ϖc (H:=H6) (a:=lh) (o:=.lst [w1,w2])
 have g6l:=g6.trans gl
 have hN1:=hN1.same g6l
 have hN2:=hN2.same gl
 have g56:=g5.trans g6l
 have hV1:=hV1.mono g56
 have hV2:=hV2.mono g56
 have hS7:=(g14.trans g56).seq hS
 generalize upd H6 lh (.lst [w1,w2])=H7 at gl eh hN1 hN2 hV1 hV2 hS7⊢
 clear ok1 ok2 g1 g2 g12 g13 g4 g14 g5 g6 g6l g56 gl hlh hS gp hp hg hg'
 have nm:Nm s.rooms:=⟨r0,by omega⟩
 refine⟨_,rfl,_,_,_,_,rfl,rfl,SqL.of eh,rfl,_,rfl,_,_,_,_,rfl,rfl,SqL.of eh,rfl,w1,s,pb1,ps1,pe1,w2,u,pb2,ps2,pe2,rfl,hN1,hN2,jk,(by omega),nm,fun z=>(by rw[hPl] at z;cases z),fun _ z=>(by rw[hPu] at z;cases z),fun _ _ z=>absurd z (by omega),fun _ _ hc vf H8 pbf psf pef k g8 hk ji hNf ap=>?_⟩
 have okJ:=ϟi jk hc ji
 have plJ:=ϟG hPl ji
 have okF:=ϛp okJ
 have plF:=ϰ_ plJ
 have wlF:WdL (ϑN (ϑ2 s u)) 1640:=trim_wl (join_wl wl wu)
 have rF:(ϑN (ϑ2 s u)).rooms≤s.rooms*u.rooms:=ϡG _ hprod0
 have rF0:0≤(ϑN (ϑ2 s u)).rooms:=by show(0:Int)≤((useL (ϑ2 s u)).length:Int);omega
 have hsF:∀t∈(ϑN (ϑ2 s u)).steps,∃c∈cl (ϑN (ϑ2 s u)).signs,t.2.1=(⟨#[c]⟩:Str):=fun t ht=>by
  obtain⟨t1,ht1,j,k,_,_,rfl⟩:=mem_keptS.mp ht
  obtain⟨p,_,ht2⟩:=List.mem_flatMap.mp (show t1∈(ϑC s u).flatMap (jS s u) from ht1)
  unfold jS at ht2
  obtain⟨t0,h0,e⟩:=List.mem_filterMap.mp ht2
  obtain⟨c,_,rfl⟩:=ϵq e
  exact hsg t0 (mem_stOut.mp h0).1
 have lF:(ϑN (ϑ2 s u)).steps.length≤999:=by
  have:=ϝJ plF okF hsF (R:=30) (n:=5) (by omega) sg2
  omega
 have hrunF:∀x,runS (ϑN (ϑ2 s u)) x=(runS s x).bind (runS u):=fun x=>by rw[ϛB okJ plJ,ϛk hPl hPu jk ji hk]
 have sgF:(ϑN (ϑ2 s u)).signs=s.signs:=rfl
 have dF:deep (dScr (ϑN (ϑ2 s u)))≤60:=Nat.le_trans (ϱ_ _) (by decide)
 generalize eF:ϑN (ϑ2 s u)=F at hNf okF plF wlF rF rF0 hsF lF hrunF sgF dF
 clear okJ plJ
 have hVf:=hNf.v
 refine⟨_,rfl,vf,F,pbf,psf,pef,rfl,hVf,fun H9 g9=>⟨_,rfl,iteF ?_⟩⟩
 have g89:=g8.trans g9
 obtain⟨fv,xb,xs,xe,ef,f1,f2,f3,f4,_⟩:=id hNf
 subst ef
 obtain⟨av,_,_,_,ea,a1,_⟩:=id hV1
 subst ea
 obtain⟨bv,_,_,_,eb,b1,_⟩:=id hV2
 subst eb
 refine⟨_,rfl,_,_,_,_,rfl,rfl,Same.seqT g9 f1,rfl,_,rfl,_,_,_,_,rfl,rfl,Same.seqT g89 a1,rfl,rfl,_,rfl,ϰX (fun c=>absurd (by rw[sgF]) c) (fun _=>?_)⟩
 refine⟨_,rfl,_,F,pbf,psf,pef,rfl,hNf.same g9,okF,plF,hsF,lF,fun H10 g10=>⟨_,rfl,iteF ?_⟩⟩
 have g910:=g9.trans g10
 have g810:=g8.trans g910
 refine⟨_,rfl,_,_,_,_,rfl,rfl,Same.seqT g910 f1,rfl,_,_,rfl,rfl,_,rfl,ϑ8 (fun c=>absurd c (by omega)) (fun _=>?_)⟩
 refine⟨_,rfl,_,_,_,_,rfl,rfl,Same.seqT g910 f1,rfl,_,rfl,_,_,_,_,rfl,rfl,Same.seqT g810 a1,rfl,_,rfl,_,_,_,_,rfl,rfl,Same.seqT g810 b1,rfl,_,_,rfl,rfl,.inl ⟨by omega,by omega⟩,_,_,rfl,rfl,_,rfl,ϑ8 (fun c=>absurd c (by omega)) (fun _=>?_)⟩
 have hV10:=hV1.mono g810
 have hU10:=hV2.mono g810
 have hF10:=hVf.mono g910
 have hS10:=g810.seq hS7
 refine⟨_,rfl,_,rfl,_,_,_,_,rfl,rfl,Same.seqT g810 a1,rfl,a,ns,s.signs,20,rfl,hS10,by omega,by omega,by decide,by decide,fun x1 hx1=>?_⟩
 refine⟨_,rfl,_,rfl,_,s,pb,ps,pe,a,ns,20,rfl,hV10,okR,hS10,by decide,by decide,hone,fun x2 H11 hx2 g11=>⟨szl (by simp),fun p hp=>⟨p,rfl,⟨_,SqL.of ϖc⟩,?_⟩⟩⟩
 have gp:=ϖg hp (.lst [V.str x1,V.str x2])
 have ep:=ϖc (H:=H11) (a:=p) (o:=.lst [V.str x1,V.str x2])
 have g11:=g11.trans gp
 generalize upd H11 p (.lst [V.str x1,V.str x2])=H12 at ep g11⊢
 let Iv_1:Nat→L2.St→Hp→Prop:=(fun i σ H'=>Same H12 H'∧∃x6 x7,σ=[some (.ref a),some (.int n0),some (.ref av),some (.ref bv),some (.ref lh),some (.ref fv),x6,x7,none,none])
 refine ϑK (xs:=[x1,x2].map V.str) Iv_1 ⟨Same.refl _,_,_,rfl⟩ (fun i σ H' _ z=>z.1.seq (SqL.of ep)) (fun b_ r_ hb_ hr_=>?_) ?_
 ·rintro i y σ H13 hy ⟨g13,x6,x7,rfl⟩
  rw[List.getElem?_map] at hy
  obtain⟨x,hx,rfl⟩:=Option.map_eq_some_iff.mp hy
  have hxl:x.length≤50:=by
   have:=List.mem_of_getElem? hx
   simp only[List.mem_cons,List.not_mem_nil,or_false] at this
   rcases this with rfl|rfl
   ·exact hx1
   ·exact hx2
  have G:=g11.trans g13
  refine⟨_,rfl,_,rfl,_,s,pb,ps,pe,x,40,rfl,hV10.mono G,okR,wl,by omega,fun H14 g14=>?_⟩
  have G14:=G.trans g14
  refine⟨fun σ' H'=>Same H14 H'∧σ'=[some (.ref a),some (.int n0),some (.ref av),some (.ref bv),some (.ref lh),some (.ref fv),some (.str x),some (optV ((runS s x).bind (runS u))),none,none],?_,?_⟩
  ·cases hr:runS s x with
   |none=>exact⟨_,rfl,rfl,_,rfl,ϰX (fun c=>absurd rfl c) (fun _=>⟨Same.refl _,rfl⟩)⟩
   |some y=>
    have hy:=run_wl wl hr
    have hy2:40*(x.length+2)≤40*52:=Nat.mul_le_mul_left 40 (by omega)
    refine⟨_,rfl,rfl,_,rfl,ϰX (fun _=>?_) (fun c=>nomatch c)⟩
    exact⟨_,rfl,_,rfl,_,u,qb,qs,qe,y,40,rfl,hU10.mono G14,okU,wu,by omega,fun H15 g15=>⟨g15,rfl⟩⟩
  rintro _ H15 ⟨g15,rfl⟩
  refine⟨_,rfl,_,rfl,_,F,pbf,psf,pef,x,1640,rfl,(hF10.mono G14).mono g15,okF,wlF,by omega,fun H16 g16=>?_⟩
  rw[hrunF x]
  refine⟨_,rfl,dOp ((runS s x).bind (runS u)),dOp ((runS s x).bind (runS u)),ϛT _,ϛT _,deep_op _,_,rfl,?_⟩
  rw[ϰb]
  exact iteF ⟨((g13.trans g14).trans g15).trans g16,_,_,rfl⟩
 rintro σ H13 ⟨g13,x6,x7,rfl⟩
 have G13:=g11.trans g13
 have H913:=(g9.trans g10).trans G13
 refine⟨_,rfl,_,F,pbf,psf,pef,rfl,hF10.mono G13,fun vk H14 pbk psk pek g14 hNk apk=>?_⟩
 have f2':=H913 _ _ f2
 have f3':=H913 _ _ f3
 have f4':=H913 _ _ f4
 have H914:=H913.trans g14
 have N:∀{p q:Addr}{y:List V},H13 p=some (.lst y)→H13 q=none→q≠p:=fun h1 h2=>(ϖs h1 h2).symm
 refine⟨_,_,rfl,⟨by decide,by decide,by decide,by decide⟩,?_⟩
 let Iv_2:Nat→L2.St→Hp→Prop:=(fun i σ H'=>Same H7 H'∧SqT K H' fv [.str F.signs,.int F.rooms,.ref pbf,.ref psf,.ref pef]∧(∃ y,H' pbf=some (.lst y))∧(∃ y,H' psf=some (.lst y))∧(∃ y,H' pef=some (.lst y))∧ScN K H' F vk pbk psk pek∧∃x9,σ=[some (.ref a),some (.int n0),some (.ref av),some (.ref bv),some (.ref lh),some (.ref fv),x6,x7,some vk,x9])
 refine ϕc Iv_2
  ⟨g8.trans H914,Same.seqT H914 f1,⟨_,H914 _ _ f2⟩,⟨_,H914 _ _ f3⟩,⟨_,H914 _ _ f4⟩,hNk,_,rfl⟩ (fun b_ r_ hb_ hr_=>?_) ?_
 ·rintro i σ H15 hi ⟨g15,u1,⟨yb,u2⟩,⟨ys,u3⟩,⟨ye,u4⟩,hNk,x9,rfl⟩
  have hi3:i < 3:=hi
  have hc:i=0∨i=1∨i=2:=by omega
  rcases hc with rfl|rfl|rfl
  ·exact⟨_,rfl,_,rfl,_,_,_,_,rfl,rfl,u1,rfl,.inl ⟨rfl,_,SqL.of u2⟩,pbf,yb,rfl,rfl,u2,ϖC g15 ap.nb,(ϕD u2 (fun _ z=>nomatch z) (fun _ _ z=>nomatch z) _).seqT u1,⟨_,ϖc⟩,⟨_,(ϖp ap.bs.symm).trans u3⟩,⟨_,(ϖp ap.be.symm).trans u4⟩,hNk.put u2 (N f2' apk.nb) (N f2' apk.ns) (N f2' apk.ne),_,rfl⟩
  ·exact⟨_,rfl,_,rfl,_,_,_,_,rfl,rfl,u1,rfl,.inl ⟨rfl,_,SqL.of u3⟩,psf,ys,rfl,rfl,u3,ϖC g15 ap.ns,(ϕD u3 (fun _ z=>nomatch z) (fun _ _ z=>nomatch z) _).seqT u1,⟨_,(ϖp ap.bs).trans u2⟩,⟨_,ϖc⟩,⟨_,(ϖp ap.se.symm).trans u4⟩,hNk.put u3 (N f3' apk.nb) (N f3' apk.ns) (N f3' apk.ne),_,rfl⟩
  ·exact⟨_,rfl,_,rfl,_,_,_,_,rfl,rfl,u1,rfl,.inl ⟨rfl,_,SqL.of u4⟩,pef,ye,rfl,rfl,u4,ϖC g15 ap.ne,(ϕD u4 (fun _ z=>nomatch z) (fun _ _ z=>nomatch z) _).seqT u1,⟨_,(ϖp ap.be).trans u2⟩,⟨_,(ϖp ap.se).trans u3⟩,⟨_,ϖc⟩,hNk.put u4 (N f4' apk.nb) (N f4' apk.ns) (N f4' apk.ne),_,rfl⟩
 rintro σ H15 ⟨g15,_,_,_,_,hNk,x9,rfl⟩
 refine⟨_,rfl,_,rfl,_,rfl,szl (by simp),fun p2 hp2=>?_⟩
 have gp2:=ϖg hp2 (.lst [V.ref av,V.ref bv])
 have g16:=g15.trans gp2
 have eh16:=g16 _ _ eh
 refine⟨.lst [dScr s,dScr u],.lst [dScr s,dScr u],ϖZ (SqL.of eh16) (.cons (hN1.same g16).v.rep (.cons (hN2.same g16).v.rep .nil)),ϖZ (SqL.of ϖc) (.cons (hV1.mono g16).rep (.cons (hV2.mono g16).rep .nil)),?_,_,rfl,?_⟩
 ·have e1:=ϱ_ s
  have e2:=ϱ_ u
  simp only[deep,ϰs]
  omega
 rw[ϰb]
 refine iteF ?_
 have hNk:=hNk.same gp2
 generalize upd H15 p2 (.lst [V.ref av,V.ref bv])=H16 at g16 eh16 hNk⊢
 refine⟨_,rfl,_,_,_,_,rfl,rfl,SqL.of eh16,rfl,_,rfl,_,_,_,_,rfl,rfl,SqL.of eh16,rfl,w1,s,pb1,ps1,pe1,w2,u,pb2,ps2,pe2,rfl,hN1.same g16,hN2.same g16,jk,(by omega),nm,fun z=>(by rw[hPl] at z;cases z),fun _ z=>(by rw[hPu] at z;cases z),fun _ _ z=>absurd z (by omega),fun _ _ _ vg H17 pbg psg peg k' g17 _ _ hNg _=>?_⟩
 rw[eF] at hNg
 refine⟨_,rfl,vg,F,pbg,psg,peg,rfl,hNg.v,fun H18 g18=>⟨_,rfl,iteT ?_⟩⟩
 refine⟨_,rfl,_,rfl,_,_,(hNg.v.mono g18).rep,(hNk.v.mono (g17.trans g18)).rep,dF,?_⟩
 rw[ϰb]
 exact q _
end
theorem ϰI {α:Type}:∀{us:List α} (_:us.length=1),∃u0,us=[u0]
 |[u0],_=>⟨u0,rfl⟩
theorem ϵ9 {α:Type}:∀{us:List α} (_:us.length=2),∃u0 u1,us=[u0,u1]
 |[u0,u1],_=>⟨u0,u1,rfl⟩
theorem ϡp {α:Type}:∀{us:List α} (_:us.length=3),∃u0 u1 u2,us=[u0,u1,u2]
 |[u0,u1,u2],_=>⟨u0,u1,u2,rfl⟩
theorem len_4 {α:Type}:∀{us:List α} (_:us.length=4),∃u0 u1 u2 u3,us=[u0,u1,u2,u3]
 |[u0,u1,u2,u3],_=>⟨u0,u1,u2,u3,rfl⟩
theorem all_mk {l:PySem.W.OpenLaw}{w:World}{K:Frag}{h:Heap}{mg:Str→Option Value}{fa f0 f1 f2 f3 f4 f5 f6 f7 f8 f9 f10 f11 f12 f13 f14 f15 f16 f17 f18 f19 f20 f21 f22 f23 f24 f25 f26 f27 f28 f29 f30 f31 f32 ϖe ϖi:Addr} (X:K.In h) (G:h.Ns mainGlobals mg) (hfa:mg "law"=some (.ref fa))
  {od0 an0 od1 an1 od2 an2 od3 an3 od4 an4 od5 an5 od6 an6 od7 an7 od8 an8 od9 an9 od10 an10 od11 an11 od12 an12 od13 an13 od14 an14 od15 an15 od16 an16 od17 an17 od18 an18 od19 an19 od20 an20 od21 an21 od22 an22 od23 an23 od24 an24 od25 an25 od26 an26 od27 an27 od28 an28 od29 an29 od30 an30 od31 an31 od32 an32:Option Addr}{sl0 sl1 sl2 sl3 sl4 sl5 sl6 sl7 sl8 sl9 sl10 sl11 sl12 sl13 sl14 sl15 sl16 sl17 sl18 sl19 sl20 sl21 sl22 sl23 sl24 sl25 sl26 sl27 sl28 sl29 sl30 sl31 sl32:Array (Option Value)}{oc0 kV0 dc0 pm0 cd0 ct0 oc1 kV1 dc1 pm1 cd1 ct1 oc2 kV2 dc2 pm2 cd2 ct2 oc3 kV3 dc3 pm3 cd3 ct3 oc4 kV4 dc4 pm4 cd4 ct4 oc5 kV5 dc5 pm5 cd5 ct5 oc6 kV6 dc6 pm6 cd6 ct6 oc7 kV7 dc7 pm7 cd7 ct7 oc8 kV8 dc8 pm8 cd8 ct8 oc9 kV9 dc9 pm9 cd9 ct9 oc10 kV10 dc10 pm10 cd10 ct10 oc11 kV11 dc11 pm11 cd11 ct11 oc12 kV12 dc12 pm12 cd12 ct12 oc13 kV13 dc13 pm13 cd13 ct13 oc14 kV14 dc14 pm14 cd14 ct14 oc15 kV15 dc15 pm15 cd15 ct15 oc16 kV16 dc16 pm16 cd16 ct16 oc17 kV17 dc17 pm17 cd17 ct17 oc18 kV18 dc18 pm18 cd18 ct18 oc19 kV19 dc19 pm19 cd19 ct19 oc20 kV20 dc20 pm20 cd20 ct20 oc21 kV21 dc21 pm21 cd21 ct21 oc22 kV22 dc22 pm22 cd22 ct22 oc23 kV23 dc23 pm23 cd23 ct23 oc24 kV24 dc24 pm24 cd24 ct24 oc25 kV25 dc25 pm25 cd25 ct25 oc26 kV26 dc26 pm26 cd26 ct26 oc27 kV27 dc27 pm27 cd27 ct27 oc28 kV28 dc28 pm28 cd28 ct28 oc29 kV29 dc29 pm29 cd29 ct29 oc30 kV30 dc30 pm30 cd30 ct30 oc31 kV31 dc31 pm31 cd31 ct31 oc32 kV32 dc32 pm32 cd32 ct32:Value}
  (a0:nsIn K mainGlobals "all_unlike"=some (some (.ref f0))) (l0:K.lookup f0=some ⟨oc0,od0,.func (fnOf "all_unlike" "all_unlike" (ϖD ϑJ) (ϖB ϑJ) (ϖj ϑJ) .none kV0 dc0 pm0 an0 cd0 ct0),sl0⟩) (c0:codeIn K cd0 "all_unlike"=true) (k0:keepIn K (.ref f0)=true)
  (a1:nsIn K mainGlobals "is_plain"=some (some (.ref f1))) (l1:K.lookup f1=some ⟨oc1,od1,.func (fnOf "is_plain" "is_plain" (ϖD ϕf) (ϖB ϕf) (ϖj ϕf) .none kV1 dc1 pm1 an1 cd1 ct1),sl1⟩) (c1:codeIn K cd1 "is_plain"=true) (k1:keepIn K (.ref f1)=true)
  (a2:nsIn K mainGlobals "refuse_choices"=some (some (.ref f2))) (l2:K.lookup f2=some ⟨oc2,od2,.func (fnOf "refuse_choices" "refuse_choices" (ϖD ϖ1) (ϖB ϖ1) (ϖj ϖ1) .none kV2 dc2 pm2 an2 cd2 ct2),sl2⟩) (c2:codeIn K cd2 "refuse_choices"=true) (k2:keepIn K (.ref f2)=true)
  (a3:nsIn K mainGlobals "refuse_many_pairs"=some (some (.ref f3))) (l3:K.lookup f3=some ⟨oc3,od3,.func (fnOf "refuse_many_pairs" "refuse_many_pairs" (ϖD ϖS) (ϖB ϖS) (ϖj ϖS) .none kV3 dc3 pm3 an3 cd3 ct3),sl3⟩) (c3:codeIn K cd3 "refuse_many_pairs"=true) (k3:keepIn K (.ref f3)=true)
  (a4:nsIn K mainGlobals "steps_by_start"=some (some (.ref f4))) (l4:K.lookup f4=some ⟨oc4,od4,.func (fnOf "steps_by_start" "steps_by_start" (ϖD ϖ3) (ϖB ϖ3) (ϖj ϖ3) .none kV4 dc4 pm4 an4 cd4 ct4),sl4⟩) (c4:codeIn K cd4 "steps_by_start"=true) (k4:keepIn K (.ref f4)=true)
  (a5:nsIn K mainGlobals "read_from"=some (some (.ref f5))) (l5:K.lookup f5=some ⟨oc5,od5,.func (fnOf "read_from" "read_from" (ϖD ϑW) (ϖB ϑW) (ϖj ϑW) .none kV5 dc5 pm5 an5 cd5 ct5),sl5⟩) (c5:codeIn K cd5 "read_from"=true) (k5:keepIn K (.ref f5)=true)
  (a6:nsIn K mainGlobals "places_at"=some (some (.ref f6))) (l6:K.lookup f6=some ⟨oc6,od6,.func (fnOf "places_at" "places_at" (ϖD ϑQ) (ϖB ϑQ) (ϖj ϑQ) .none kV6 dc6 pm6 an6 cd6 ct6),sl6⟩) (c6:codeIn K cd6 "places_at"=true) (k6:keepIn K (.ref f6)=true)
  (a7:nsIn K mainGlobals "traces_from"=some (some (.ref f7))) (l7:K.lookup f7=some ⟨oc7,od7,.func (fnOf "traces_from" "traces_from" (ϖD ϑr) (ϖB ϑr) (ϖj ϑr) .none kV7 dc7 pm7 an7 cd7 ct7),sl7⟩) (c7:codeIn K cd7 "traces_from"=true) (k7:keepIn K (.ref f7)=true)
  (a8:nsIn K mainGlobals "traces_from_begins"=some (some (.ref f8))) (l8:K.lookup f8=some ⟨oc8,od8,.func (fnOf "traces_from_begins" "traces_from_begins" (ϖD ϖP) (ϖB ϖP) (ϖj ϖP) .none kV8 dc8 pm8 an8 cd8 ct8),sl8⟩) (c8:codeIn K cd8 "traces_from_begins"=true) (k8:keepIn K (.ref f8)=true)
  (a9:nsIn K mainGlobals "traces_to_ends"=some (some (.ref f9))) (l9:K.lookup f9=some ⟨oc9,od9,.func (fnOf "traces_to_ends" "traces_to_ends" (ϖD ϖ4) (ϖB ϖ4) (ϖj ϖ4) .none kV9 dc9 pm9 an9 cd9 ct9),sl9⟩) (c9:codeIn K cd9 "traces_to_ends"=true) (k9:keepIn K (.ref f9)=true)
  (a10:nsIn K mainGlobals "useful_rooms"=some (some (.ref f10))) (l10:K.lookup f10=some ⟨oc10,od10,.func (fnOf "useful_rooms" "useful_rooms" (ϖD ϑg) (ϖB ϑg) (ϖj ϑg) .none kV10 dc10 pm10 an10 cd10 ct10),sl10⟩) (c10:codeIn K cd10 "useful_rooms"=true) (k10:keepIn K (.ref f10)=true)
  (a11:nsIn K mainGlobals "marks_kept"=some (some (.ref f11))) (l11:K.lookup f11=some ⟨oc11,od11,.func (fnOf "marks_kept" "marks_kept" (ϖD ϑI) (ϖB ϑI) (ϖj ϑI) .none kV11 dc11 pm11 an11 cd11 ct11),sl11⟩) (c11:codeIn K cd11 "marks_kept"=true) (k11:keepIn K (.ref f11)=true)
  (a12:nsIn K mainGlobals "steps_kept"=some (some (.ref f12))) (l12:K.lookup f12=some ⟨oc12,od12,.func (fnOf "steps_kept" "steps_kept" (ϖD ϑE) (ϖB ϑE) (ϖj ϑE) .none kV12 dc12 pm12 an12 cd12 ct12),sl12⟩) (c12:codeIn K cd12 "steps_kept"=true) (k12:keepIn K (.ref f12)=true)
  (a13:nsIn K mainGlobals "trimmed_of"=some (some (.ref f13))) (l13:K.lookup f13=some ⟨oc13,od13,.func (fnOf "trimmed_of" "trimmed_of" (ϖD ϑG) (ϖB ϑG) (ϖj ϑG) .none kV13 dc13 pm13 an13 cd13 ct13),sl13⟩) (c13:codeIn K cd13 "trimmed_of"=true) (k13:keepIn K (.ref f13)=true)
  (a14:nsIn K mainGlobals "joined_begins"=some (some (.ref f14))) (l14:K.lookup f14=some ⟨oc14,od14,.func (fnOf "joined_begins" "joined_begins" (ϖD ϑb) (ϖB ϑb) (ϖj ϑb) .none kV14 dc14 pm14 an14 cd14 ct14),sl14⟩) (c14:codeIn K cd14 "joined_begins"=true) (k14:keepIn K (.ref f14)=true)
  (a15:nsIn K mainGlobals "joined_steps"=some (some (.ref f15))) (l15:K.lookup f15=some ⟨oc15,od15,.func (fnOf "joined_steps" "joined_steps" (ϖD ϑh) (ϖB ϑh) (ϖj ϑh) .none kV15 dc15 pm15 an15 cd15 ct15),sl15⟩) (c15:codeIn K cd15 "joined_steps"=true) (k15:keepIn K (.ref f15)=true)
  (a16:nsIn K mainGlobals "joined_steps_by_pair"=some (some (.ref f16))) (l16:K.lookup f16=some ⟨oc16,od16,.func (fnOf "joined_steps_by_pair" "joined_steps_by_pair" (ϖD ϖK) (ϖB ϖK) (ϖj ϖK) .none kV16 dc16 pm16 an16 cd16 ct16),sl16⟩) (c16:codeIn K cd16 "joined_steps_by_pair"=true) (k16:keepIn K (.ref f16)=true)
  (a17:nsIn K mainGlobals "joined_ends"=some (some (.ref f17))) (l17:K.lookup f17=some ⟨oc17,od17,.func (fnOf "joined_ends" "joined_ends" (ϖD ϑo) (ϖB ϑo) (ϖj ϑo) .none kV17 dc17 pm17 an17 cd17 ct17),sl17⟩) (c17:codeIn K cd17 "joined_ends"=true) (k17:keepIn K (.ref f17)=true)
  (a18:nsIn K mainGlobals "joined_behind"=some (some (.ref f18))) (l18:K.lookup f18=some ⟨oc18,od18,.func (fnOf "joined_behind" "joined_behind" (ϖD ϖ_) (ϖB ϖ_) (ϖj ϖ_) .none kV18 dc18 pm18 an18 cd18 ct18),sl18⟩) (c18:codeIn K cd18 "joined_behind"=true) (k18:keepIn K (.ref f18)=true)
  (a19:nsIn K mainGlobals "_law_cell_at"=some (some (.ref f19))) (l19:K.lookup f19=some ⟨oc19,od19,.func (fnOf "_law_cell_at" "_law_cell_at" (ϖD ϑq) (ϖB ϑq) (ϖj ϑq) .none kV19 dc19 pm19 an19 cd19 ct19),sl19⟩) (c19:codeIn K cd19 "_law_cell_at"=true) (k19:keepIn K (.ref f19)=true)
  (a20:nsIn K mainGlobals "_law_whole"=some (some (.ref f20))) (l20:K.lookup f20=some ⟨oc20,od20,.func (fnOf "_law_whole" "_law_whole" (ϖD ϑS) (ϖB ϑS) (ϖj ϑS) .none kV20 dc20 pm20 an20 cd20 ct20),sl20⟩) (c20:codeIn K cd20 "_law_whole"=true) (k20:keepIn K (.ref f20)=true)
  (a21:nsIn K mainGlobals "_law_mixed"=some (some (.ref f21))) (l21:K.lookup f21=some ⟨oc21,od21,.func (fnOf "_law_mixed" "_law_mixed" (ϖD ϑ0) (ϖB ϑ0) (ϖj ϑ0) .none kV21 dc21 pm21 an21 cd21 ct21),sl21⟩) (c21:codeIn K cd21 "_law_mixed"=true) (k21:keepIn K (.ref f21)=true)
  (a22:nsIn K mainGlobals "_law_word"=some (some (.ref f22))) (l22:K.lookup f22=some ⟨oc22,od22,.func (fnOf "_law_word" "_law_word" (ϖD ϕe) (ϖB ϕe) (ϖj ϕe) .none kV22 dc22 pm22 an22 cd22 ct22),sl22⟩) (c22:codeIn K cd22 "_law_word"=true) (k22:keepIn K (.ref f22)=true)
  (a23:nsIn K mainGlobals "_law_signs"=some (some (.ref f23))) (l23:K.lookup f23=some ⟨oc23,od23,.func (fnOf "_law_signs" "_law_signs" (ϖD ϑZ) (ϖB ϑZ) (ϖj ϑZ) .none kV23 dc23 pm23 an23 cd23 ct23),sl23⟩) (c23:codeIn K cd23 "_law_signs"=true) (k23:keepIn K (.ref f23)=true)
  (a24:nsIn K mainGlobals "_law_rest"=some (some (.ref f24))) (l24:K.lookup f24=some ⟨oc24,od24,.func (fnOf "_law_rest" "_law_rest" (ϖD ϕd) (ϖB ϕd) (ϖj ϕd) .none kV24 dc24 pm24 an24 cd24 ct24),sl24⟩) (c24:codeIn K cd24 "_law_rest"=true) (k24:keepIn K (.ref f24)=true)
  (a25:nsIn K mainGlobals "_law_plain"=some (some (.ref f25))) (l25:K.lookup f25=some ⟨oc25,od25,.func (fnOf "_law_plain" "_law_plain" (ϖD ϑU) (ϖB ϑU) (ϖj ϑU) .none kV25 dc25 pm25 an25 cd25 ct25),sl25⟩) (c25:codeIn K cd25 "_law_plain"=true) (k25:keepIn K (.ref f25)=true)
  (a26:nsIn K mainGlobals "_law_copy"=some (some (.ref f26))) (l26:K.lookup f26=some ⟨oc26,od26,.func (fnOf "_law_copy" "_law_copy" (ϖD ϕh) (ϖB ϕh) (ϖj ϕh) .none kV26 dc26 pm26 an26 cd26 ct26),sl26⟩) (c26:codeIn K cd26 "_law_copy"=true) (k26:keepIn K (.ref f26)=true)
  (a27:nsIn K mainGlobals "_law_is_scribe"=some (some (.ref f27))) (l27:K.lookup f27=some ⟨oc27,od27,.func (fnOf "_law_is_scribe" "_law_is_scribe" (ϖD ϑa) (ϖB ϑa) (ϖj ϑa) .none kV27 dc27 pm27 an27 cd27 ct27),sl27⟩) (c27:codeIn K cd27 "_law_is_scribe"=true) (k27:keepIn K (.ref f27)=true)
  (a28:nsIn K mainGlobals "_law_run"=some (some (.ref f28))) (l28:K.lookup f28=some ⟨oc28,od28,.func (fnOf "_law_run" "_law_run" (ϖD ϕB) (ϖB ϕB) (ϖj ϕB) .none kV28 dc28 pm28 an28 cd28 ct28),sl28⟩) (c28:codeIn K cd28 "_law_run"=true) (k28:keepIn K (.ref f28)=true)
  (a29:nsIn K mainGlobals "_law_text"=some (some (.ref f29))) (l29:K.lookup f29=some ⟨oc29,od29,.func (fnOf "_law_text" "_law_text" (ϖD ϕg) (ϖB ϕg) (ϖj ϕg) .none kV29 dc29 pm29 an29 cd29 ct29),sl29⟩) (c29:codeIn K cd29 "_law_text"=true) (k29:keepIn K (.ref f29)=true)
  (a30:nsIn K mainGlobals "_law_follow"=some (some (.ref f30))) (l30:K.lookup f30=some ⟨oc30,od30,.func (fnOf "_law_follow" "_law_follow" (ϖD ϑH) (ϖB ϑH) (ϖj ϑH) .none kV30 dc30 pm30 an30 cd30 ct30),sl30⟩) (c30:codeIn K cd30 "_law_follow"=true) (k30:keepIn K (.ref f30)=true)
  (a31:nsIn K mainGlobals "_law_rooms_good"=some (some (.ref f31))) (l31:K.lookup f31=some ⟨oc31,od31,.func (fnOf "_law_rooms_good" "_law_rooms_good" (ϖD ϖ2) (ϖB ϖ2) (ϖj ϖ2) .none kV31 dc31 pm31 an31 cd31 ct31),sl31⟩) (c31:codeIn K cd31 "_law_rooms_good"=true) (k31:keepIn K (.ref f31)=true)
  (a32:nsIn K mainGlobals "law"=some (some (.ref f32))) (l32:K.lookup f32=some ⟨oc32,od32,.func (fnOf "law" "law" (ϖD ϵX) (ϖB ϵX) (ϖj ϵX) .none kV32 dc32 pm32 an32 cd32 ct32),sl32⟩) (c32:codeIn K cd32 "law"=true) (k32:keepIn K (.ref f32)=true)
  (z0:nsIn K mainGlobals "bool"=some none)
  (z1:nsIn K mainGlobals "dict"=some none)
  (z2:nsIn K mainGlobals "enumerate"=some none)
  (z3:nsIn K mainGlobals "int"=some none)
  (z4:nsIn K mainGlobals "isinstance"=some none)
  (z5:nsIn K mainGlobals "len"=some none)
  (z6:nsIn K mainGlobals "list"=some none)
  (z7:nsIn K mainGlobals "max"=some none)
  (z8:nsIn K mainGlobals "min"=some none)
  (z9:nsIn K mainGlobals "range"=some none)
  (z10:nsIn K mainGlobals "set"=some none)
  (z11:nsIn K mainGlobals "sorted"=some none)
  (z12:nsIn K mainGlobals "str"=some none)
  (z13:nsIn K mainGlobals "tuple"=some none)
  (z14:nsIn K mainGlobals "zip"=some none)
  {gt0:Tok} (g0:nsIn K mainGlobals "BEGINS"=some (some (.int 2 gt0)))
  {gt1:Tok} (g1:nsIn K mainGlobals "ENDS"=some (some (.int 4 gt1)))
  {gt2:Tok} (g2:nsIn K mainGlobals "INTO"=some (some (.int 3 gt2)))
  {gt3:Tok} (g3:nsIn K mainGlobals "MOST_ROOMS"=some (some (.int 200 gt3)))
  {gt4:Tok} (g4:nsIn K mainGlobals "OUT_OF"=some (some (.int 0 gt4)))
  {gt5:Tok} (g5:nsIn K mainGlobals "ROOMS"=some (some (.int 1 gt5)))
  {gt6:Tok} (g6:nsIn K mainGlobals "SIGNS"=some (some (.int 0 gt6)))
  {gt7:Tok} (g7:nsIn K mainGlobals "STEPS"=some (some (.int 3 gt7)))
  (x0:nsIn K mainGlobals "NotPlain"=some (some (.ref ϖe)))
  (x1:nsIn K mainGlobals "TooMany"=some (some (.ref ϖi)))
  (x2:PySem.W.excIn K ϖe bmV "ValueError.__new__"=true)
  (x3:findIn K (.ref ϖe) "__getattribute__"=some (some (.builtin "BaseException.__getattribute__")))
  (x4:findIn K (.ref ϖe) "__getattr__"=some none)
  (x5:mroIn K ϖe (.type "BaseException")=some true)
  (x6:(PySem.W.clsIn K ϖe).isSome=true)
  (x7:findIn K (.ref ϖe) "__class__"=some (some (.builtin "object.__class__")))
  (x8:PySem.W.specialIn K (.builtin "object.__class__") "__get__"=some (some (.builtin "getset_descriptor.__get__")))
  (x9:PySem.W.takesIn K (.builtin "object.__class__")=some true)
  (x10:mroIn K ϖe (.type "object")=some true)
  (x11:PySem.W.excIn K ϖi bmV "ValueError.__new__"=true)
  (x12:findIn K (.ref ϖi) "__getattribute__"=some (some (.builtin "BaseException.__getattribute__")))
  (x13:findIn K (.ref ϖi) "__getattr__"=some none)
  (x14:mroIn K ϖi (.type "BaseException")=some true)
  (x15:(PySem.W.clsIn K ϖi).isSome=true)
  (x16:findIn K (.ref ϖi) "__class__"=some (some (.builtin "object.__class__")))
  (x17:PySem.W.specialIn K (.builtin "object.__class__") "__get__"=some (some (.builtin "getset_descriptor.__get__")))
  (x18:PySem.W.takesIn K (.builtin "object.__class__")=some true)
  (x19:mroIn K ϖi (.type "object")=some true) :
  ∃fd:FuncData,(∀ (s:Shared) (v:Value),BindsTo s fd ⟨[v],[]⟩ [("_law_script",v)])∧∀base:Heap,K.In base→base.Ns mainGlobals mg→FnOk l.prog w K mg base CX0 7 fa fd ["_law_script"] (ϛh K):=by
 have e:=hfa.symm.trans (mg_of X G a32)
 cases e
 have B:Bi mg:=⟨mg_none_of X G z0,mg_none_of X G z1,mg_none_of X G z2,mg_none_of X G z3,mg_none_of X G z4,mg_none_of X G z5,mg_none_of X G z6,mg_none_of X G z7,mg_none_of X G z8,mg_none_of X G z9,mg_none_of X G z10,mg_none_of X G z11,mg_none_of X G z12,mg_none_of X G z13,mg_none_of X G z14,⟨_,mg_of X G g0⟩,⟨_,mg_of X G g1⟩,⟨_,mg_of X G g2⟩,⟨_,mg_of X G g3⟩,⟨_,mg_of X G g4⟩,⟨_,mg_of X G g5⟩,⟨_,mg_of X G g6⟩,⟨_,mg_of X G g7⟩⟩
 have nm_NotPlain:=mg_of X G x0
 have nm_TooMany:=mg_of X G x1
 have own_NotPlain:OwnX K mg "NotPlain" ϖe:=⟨nm_NotPlain,x2⟩
 have xc_NotPlain:XCls K ϖe:=⟨x3,x4,x5,x6,x7,x8,x9,x10⟩
 have own_TooMany:OwnX K mg "TooMany" ϖi:=⟨nm_TooMany,x11⟩
 have xc_TooMany:XCls K ϖi:=⟨x12,x13,x14,x15,x16,x17,x18,x19⟩
 have XB:Xb K mg ϖe ϖi:=⟨nm_NotPlain,nm_TooMany,own_NotPlain,xc_NotPlain,own_TooMany,xc_TooMany⟩
 have F0:=ϖW (st:=ϑJ) l0 c0 k0
 have F1:=ϖW (st:=ϕf) l1 c1 k1
 have F2:=ϖW (st:=ϖ1) l2 c2 k2
 have F3:=ϖW (st:=ϖS) l3 c3 k3
 have F4:=ϖW (st:=ϖ3) l4 c4 k4
 have F5:=ϖW (st:=ϑW) l5 c5 k5
 have F6:=ϖW (st:=ϑQ) l6 c6 k6
 have F7:=ϖW (st:=ϑr) l7 c7 k7
 have F8:=ϖW (st:=ϖP) l8 c8 k8
 have F9:=ϖW (st:=ϖ4) l9 c9 k9
 have F10:=ϖW (st:=ϑg) l10 c10 k10
 have F11:=ϖW (st:=ϑI) l11 c11 k11
 have F12:=ϖW (st:=ϑE) l12 c12 k12
 have F13:=ϖW (st:=ϑG) l13 c13 k13
 have F14:=ϖW (st:=ϑb) l14 c14 k14
 have F15:=ϖW (st:=ϑh) l15 c15 k15
 have F16:=ϖW (st:=ϖK) l16 c16 k16
 have F17:=ϖW (st:=ϑo) l17 c17 k17
 have F18:=ϖW (st:=ϖ_) l18 c18 k18
 have F19:=ϖW (st:=ϑq) l19 c19 k19
 have F20:=ϖW (st:=ϑS) l20 c20 k20
 have F21:=ϖW (st:=ϑ0) l21 c21 k21
 have F22:=ϖW (st:=ϕe) l22 c22 k22
 have F23:=ϖW (st:=ϑZ) l23 c23 k23
 have F24:=ϖW (st:=ϕd) l24 c24 k24
 have F25:=ϖW (st:=ϑU) l25 c25 k25
 have F26:=ϖW (st:=ϕh) l26 c26 k26
 have F27:=ϖW (st:=ϑa) l27 c27 k27
 have F28:=ϖW (st:=ϕB) l28 c28 k28
 have F29:=ϖW (st:=ϕg) l29 c29 k29
 have F30:=ϖW (st:=ϑH) l30 c30 k30
 have F31:=ϖW (st:=ϖ2) l31 c31 k31
 have F32:=ϖW (st:=ϵX) l32 c32 k32
 refine⟨fnOf "law" "law" (ϖD ϵX) (ϖB ϵX) (ϖj ϵX) .none kV32 dc32 pm32 an32 cd32 ct32,fun s v=>.of_eq rfl,fun base _ _=>?_⟩
 have ϕx:Cal l.prog w K mg base "all_unlike" ["parts"] 1 (ϵP K):=⟨_,_,ϵ3 (P:=l.prog) (w:=w) (base:=base) B XB  F0,F0.binds (ps:=["parts"]) (fun _ _ _ _ _ _ us hl=>by obtain⟨u0,rfl⟩:=ϰI hl;rfl),F0.kp,mg_of X G a0⟩
 have ϰY:Cal l.prog w K mg base "is_plain" ["scribe"] 2 (ϡf K):=⟨_,_,ϲ8 (P:=l.prog) (w:=w) (base:=base) B XB ϕx F1,F1.binds (ps:=["scribe"]) (fun _ _ _ _ _ _ us hl=>by obtain⟨u0,rfl⟩:=ϰI hl;rfl),F1.kp,mg_of X G a1⟩
 have ϑA:Cal1 l.prog w K mg base "refuse_choices" ["scribe"] 3 (ϱ5 K ϖe):=⟨_,_,ϱc (P:=l.prog) (w:=w) (base:=base) B XB ϰY F2,F2.binds (ps:=["scribe"]) (fun _ _ _ _ _ _ us hl=>by obtain⟨u0,rfl⟩:=ϰI hl;rfl),F2.kp,mg_of X G a2⟩
 have ϑD:Cal1 l.prog w K mg base "refuse_many_pairs" ["one","other"] 1 (ϵJ K ϖi):=⟨_,_,ϰk (P:=l.prog) (w:=w) (base:=base) B XB  F3,F3.binds (ps:=["one","other"]) (fun _ _ _ _ _ _ us hl=>by obtain⟨u0,u1,rfl⟩:=ϵ9 hl;rfl),F3.kp,mg_of X G a3⟩
 have ϖL:Cal l.prog w K mg base "steps_by_start" ["scribe"] 1 (ϱy K):=⟨_,_,ϰV (P:=l.prog) (w:=w) (base:=base) B XB  F4,F4.binds (ps:=["scribe"]) (fun _ _ _ _ _ _ us hl=>by obtain⟨u0,rfl⟩:=ϰI hl;rfl),F4.kp,mg_of X G a4⟩
 have ϑe:Cal l.prog w K mg base "read_from" ["steps","room","text"] 1 (ϕE K):=⟨_,_,ϲl (P:=l.prog) (w:=w) (base:=base) B XB  F5,F5.binds (ps:=["steps","room","text"]) (fun _ _ _ _ _ _ us hl=>by obtain⟨u0,u1,u2,rfl⟩:=ϡp hl;rfl),F5.kp,mg_of X G a5⟩
 have ϑX:Cal l.prog w K mg base "places_at" ["steps","side"] 1 (ϰJ K):=⟨_,_,ϲh (P:=l.prog) (w:=w) (base:=base) B XB  F6,F6.binds (ps:=["steps","side"]) (fun _ _ _ _ _ _ us hl=>by obtain⟨u0,u1,rfl⟩:=ϵ9 hl;rfl),F6.kp,mg_of X G a6⟩
 have ϑp:Cal l.prog w K mg base "traces_from" ["marks","steps","near","far"] 2 (ϰR K):=⟨_,_,ϵd (P:=l.prog) (w:=w) (base:=base) B XB ϑX F7,F7.binds (ps:=["marks","steps","near","far"]) (fun _ _ _ _ _ _ us hl=>by obtain⟨u0,u1,u2,u3,rfl⟩:=len_4 hl;rfl),F7.kp,mg_of X G a7⟩
 have ϑu:Cal l.prog w K mg base "traces_from_begins" ["scribe"] 3 (ϝP K):=⟨_,_,ϕ7 (P:=l.prog) (w:=w) (base:=base) B XB ϑp F8,F8.binds (ps:=["scribe"]) (fun _ _ _ _ _ _ us hl=>by obtain⟨u0,rfl⟩:=ϰI hl;rfl),F8.kp,mg_of X G a8⟩
 have ϑ9:Cal l.prog w K mg base "traces_to_ends" ["scribe"] 3 (ϝp K):=⟨_,_,ϰ7 (P:=l.prog) (w:=w) (base:=base) B XB ϑp F9,F9.binds (ps:=["scribe"]) (fun _ _ _ _ _ _ us hl=>by obtain⟨u0,rfl⟩:=ϰI hl;rfl),F9.kp,mg_of X G a9⟩
 have ϕy:Cal l.prog w K mg base "useful_rooms" ["scribe"] 4 (ϱM K):=⟨_,_,ϱ3 (P:=l.prog) (w:=w) (base:=base) B XB ϑ9 ϑu F10,F10.binds (ps:=["scribe"]) (fun _ _ _ _ _ _ us hl=>by obtain⟨u0,rfl⟩:=ϰI hl;rfl),F10.kp,mg_of X G a10⟩
 have ϕw:Cal l.prog w K mg base "marks_kept" ["marks","numbers"] 1 (ϵT K):=⟨_,_,ϵO (P:=l.prog) (w:=w) (base:=base) B XB  F11,F11.binds (ps:=["marks","numbers"]) (fun _ _ _ _ _ _ us hl=>by obtain⟨u0,u1,rfl⟩:=ϵ9 hl;rfl),F11.kp,mg_of X G a11⟩
 have ϕ5:Cal l.prog w K mg base "steps_kept" ["steps","numbers"] 1 (ϵM K):=⟨_,_,ϵK (P:=l.prog) (w:=w) (base:=base) B XB  F12,F12.binds (ps:=["steps","numbers"]) (fun _ _ _ _ _ _ us hl=>by obtain⟨u0,u1,rfl⟩:=ϵ9 hl;rfl),F12.kp,mg_of X G a12⟩
 have ϕ8:Cal l.prog w K mg base "trimmed_of" ["scribe"] 5 (ϡE K):=⟨_,_,ϵZ (P:=l.prog) (w:=w) (base:=base) B XB ϕy ϕw ϕ5 F13,F13.binds (ps:=["scribe"]) (fun _ _ _ _ _ _ us hl=>by obtain⟨u0,rfl⟩:=ϰI hl;rfl),F13.kp,mg_of X G a13⟩
 have ϕk:Cal l.prog w K mg base "joined_begins" ["one","other"] 2 (spJB K):=⟨_,_,ϱu (P:=l.prog) (w:=w) (base:=base) B XB ϑe ϖL F14,F14.binds (ps:=["one","other"]) (fun _ _ _ _ _ _ us hl=>by obtain⟨u0,u1,rfl⟩:=ϵ9 hl;rfl),F14.kp,mg_of X G a14⟩
 have ϕA:Cal l.prog w K mg base "joined_steps" ["steps","reader","pair"] 2 (spJS K):=⟨_,_,ϱL (P:=l.prog) (w:=w) (base:=base) B XB ϑe F15,F15.binds (ps:=["steps","reader","pair"]) (fun _ _ _ _ _ _ us hl=>by obtain⟨u0,u1,u2,rfl⟩:=ϡp hl;rfl),F15.kp,mg_of X G a15⟩
 have ϑi:Cal l.prog w K mg base "joined_steps_by_pair" ["one","other","begins"] 3 (spJP K):=⟨_,_,ϕN (P:=l.prog) (w:=w) (base:=base) B XB ϑX ϖL ϕA F16,F16.binds (ps:=["one","other","begins"]) (fun _ _ _ _ _ _ us hl=>by obtain⟨u0,u1,u2,rfl⟩:=ϡp hl;rfl),F16.kp,mg_of X G a16⟩
 have ϕK:Cal l.prog w K mg base "joined_ends" ["one","other","pairs"] 2 (spJE K):=⟨_,_,ϵh (P:=l.prog) (w:=w) (base:=base) B XB ϖL ϑe F17,F17.binds (ps:=["one","other","pairs"]) (fun _ _ _ _ _ _ us hl=>by obtain⟨u0,u1,u2,rfl⟩:=ϡp hl;rfl),F17.kp,mg_of X G a17⟩
 have ϑM:Cal1 l.prog w K mg base "joined_behind" ["one","other"] 6 (ϝj K ϖe ϖi):=⟨_,_,ϱt (P:=l.prog) (w:=w) (base:=base) B XB ϑA ϑD ϕk ϑi ϕK ϕ8 F18,F18.binds (ps:=["one","other"]) (fun _ _ _ _ _ _ us hl=>by obtain⟨u0,u1,rfl⟩:=ϵ9 hl;rfl),F18.kp,mg_of X G a18⟩
 have ϖz:Cal l.prog w K mg base "_law_cell_at" ["_law_script","_law_k"] 1 (ϵA K):=⟨_,_,ϵe (P:=l.prog) (w:=w) (base:=base) B XB  F19,F19.binds (ps:=["_law_script","_law_k"]) (fun _ _ _ _ _ _ us hl=>by obtain⟨u0,u1,rfl⟩:=ϵ9 hl;rfl),F19.kp,mg_of X G a19⟩
 have ϕO:Cal l.prog w K mg base "_law_whole" ["_law_found"] 1 (ϵQ K):=⟨_,_,ϲG (P:=l.prog) (w:=w) (base:=base) B XB  F20,F20.binds (ps:=["_law_found"]) (fun _ _ _ _ _ _ us hl=>by obtain⟨u0,rfl⟩:=ϰI hl;rfl),F20.kp,mg_of X G a20⟩
 have ϖJ:Cal l.prog w K mg base "_law_mixed" ["_law_cell","_law_k"] 1 (ϱk):=⟨_,_,ϲi (P:=l.prog) (w:=w) (base:=base) B XB  F21,F21.binds (ps:=["_law_cell","_law_k"]) (fun _ _ _ _ _ _ us hl=>by obtain⟨u0,u1,rfl⟩:=ϵ9 hl;rfl),F21.kp,mg_of X G a21⟩
 have ϕG:Cal l.prog w K mg base "_law_word" ["_law_rest_here"] 1 (ϝa):=⟨_,_,ϡq (P:=l.prog) (w:=w) (base:=base) B XB  F22,F22.binds (ps:=["_law_rest_here"]) (fun _ _ _ _ _ _ us hl=>by obtain⟨u0,rfl⟩:=ϰI hl;rfl),F22.kp,mg_of X G a22⟩
 have ϰq:Cal l.prog w K mg base "_law_signs" ["_law_number"] 1 (ϵ4):=⟨_,_,ϲA (P:=l.prog) (w:=w) (base:=base) B XB  F23,F23.binds (ps:=["_law_number"]) (fun _ _ _ _ _ _ us hl=>by obtain⟨u0,rfl⟩:=ϰI hl;rfl),F23.kp,mg_of X G a23⟩
 have ϰd:Cal l.prog w K mg base "_law_rest" ["_law_script","_law_k","_law_salt"] 2 (ϛb K):=⟨_,_,ϡj (P:=l.prog) (w:=w) (base:=base) B XB ϖz ϖJ F24,F24.binds (ps:=["_law_script","_law_k","_law_salt"]) (fun _ _ _ _ _ _ us hl=>by obtain⟨u0,u1,u2,rfl⟩:=ϡp hl;rfl),F24.kp,mg_of X G a24⟩
 have ϕP:Cal l.prog w K mg base "_law_plain" ["_law_script","_law_salt","_law_most","_law_signs_here"] 3 (ϡo K):=⟨_,_,ϲr (P:=l.prog) (w:=w) (base:=base) B XB ϰd ϕG F25,F25.binds (ps:=["_law_script","_law_salt","_law_most","_law_signs_here"]) (fun _ _ _ _ _ _ us hl=>by obtain⟨u0,u1,u2,u3,rfl⟩:=len_4 hl;rfl),F25.kp,mg_of X G a25⟩
 have ϕH:Cal l.prog w K mg base "_law_copy" ["_law_scribe"] 1 (ϲb K):=⟨_,_,ϡv (P:=l.prog) (w:=w) (base:=base) B XB  F26,F26.binds (ps:=["_law_scribe"]) (fun _ _ _ _ _ _ us hl=>by obtain⟨u0,rfl⟩:=ϰI hl;rfl),F26.kp,mg_of X G a26⟩
 have ϑL:Cal l.prog w K mg base "_law_is_scribe" ["_law_found"] 2 (ϡs K):=⟨_,_,ϱq (P:=l.prog) (w:=w) (base:=base) B XB ϕO F27,F27.binds (ps:=["_law_found"]) (fun _ _ _ _ _ _ us hl=>by obtain⟨u0,rfl⟩:=ϰI hl;rfl),F27.kp,mg_of X G a27⟩
 have ϕY:Cal l.prog w K mg base "_law_run" ["_law_scribe","_law_text_here"] 1 (ϟ4 K):=⟨_,_,ϟI (P:=l.prog) (w:=w) (base:=base) B XB  F28,F28.binds (ps:=["_law_scribe","_law_text_here"]) (fun _ _ _ _ _ _ us hl=>by obtain⟨u0,u1,rfl⟩:=ϵ9 hl;rfl),F28.kp,mg_of X G a28⟩
 have ϱa:Cal l.prog w K mg base "_law_text" ["_law_script","_law_signs_here","_law_most"] 2 (ϡb K):=⟨_,_,ϡt (P:=l.prog) (w:=w) (base:=base) B XB ϖJ ϖz F29,F29.binds (ps:=["_law_script","_law_signs_here","_law_most"]) (fun _ _ _ _ _ _ us hl=>by obtain⟨u0,u1,u2,rfl⟩:=ϡp hl;rfl),F29.kp,mg_of X G a29⟩
 have ϕ3:Cal l.prog w K mg base "_law_follow" ["_law_scribe","_law_script","_law_most"] 2 (ϵN K):=⟨_,_,ϵV (P:=l.prog) (w:=w) (base:=base) B XB ϖJ ϖz F30,F30.binds (ps:=["_law_scribe","_law_script","_law_most"]) (fun _ _ _ _ _ _ us hl=>by obtain⟨u0,u1,u2,rfl⟩:=ϡp hl;rfl),F30.kp,mg_of X G a30⟩
 have ϑ7:Cal l.prog w K mg base "_law_rooms_good" ["_law_found"] 1 (ϡd K):=⟨_,_,ϱf (P:=l.prog) (w:=w) (base:=base) B XB  F31,F31.binds (ps:=["_law_found"]) (fun _ _ _ _ _ _ us hl=>by obtain⟨u0,rfl⟩:=ϰI hl;rfl),F31.kp,mg_of X G a31⟩
 exact ok_law (P:=l.prog) (w:=w) (base:=base) B XB ϖJ ϕP ϑM ϕH ϖz ϰq ϱa ϕ3 ϕY ϑL ϑ7 F32
theorem walk {l:PySem.W.OpenLaw}{q:Program}{loose:List Str}{XP:(Str→Option Value)→Heap→Prop}{YP:World→Heap→Prop}{d:DefRec}{K:Params→Frag} (hn:l.most=some 63) (hdf:d.params.defaults=[])
  (hY:∀(w:World) (h:Heap),YP w h→(K w.params).In h)
  (F:∀(w:World) (mg:Str→Option Value) (fa:Addr) (h:Heap),(K w.params).In h→h.Ns mainGlobals mg→mg d.name=some (.ref fa) →
   ∃fd:FuncData,(∀ (s:Shared) (u:Value),BindsTo s fd ⟨[u],[]⟩ [("_law_script",u)])∧∀base:Heap,(K w.params).In base→base.Ns mainGlobals mg→FnOk l.prog w (K w.params) mg base CX0 7 fa fd ["_law_script"] (ϛh (K w.params))) :
  PySem.W.WalkO q loose XP YP l.row.toRowW d [] (fun f vs=>PySem.call f vs):=
 L2.walk_of (n:=63) (k:=7) (x:="_law_script") (CX:=fun _=>CX0) (sp:=fun w=>ϛh (K w.params)) hn (by decide) hdf ⟨rfl,by decide,by decide⟩ hY F (fun _ _ a ns hl _ hS=>⟨a,ns,rfl,hS,hl,fun _=>rfl⟩) fun _ _ _ _ _ z=>z
end My
open PySem PySem.W PyProof.Rows
set_option maxRecDepth 100000 in
set_option maxHeartbeats 0 in
theorem PySem.Challenge.cw_earlyscribe_k61_one_behind_the_other_holds : PySem.Challenge.rw_earlyscribe_k61_one_behind_the_other.Holds := by
 w_on;o_law
 refine holds_open (q:=My.q) (loose:=[]) (XP:=XL My.q []) (YP:=InK My.K) (N:=3600) My.hl (InK.of fun _=>rfl) InK.keeps
  (fun s z=>xl_of s (Bool.and_eq_true_iff.mp z).1) XL.keeps (by rfl) (by rfl) (by rfl)
  (fun s z=>recFacts_of (Bool.and_eq_true_iff.mp z).2) rfl (by assumption) (by decide +kernel)
  ⟨rfl,rfl,rfl,rfl,rfl,by decide +kernel⟩ ?hw ?hc
 (case hw=>w_witness2)
 k_fill
 refine My.walk (l:=PySem.Challenge.rw_earlyscribe_k61_one_behind_the_other) rfl rfl (fun w h Y=>Y) ?F
 case F=>
  intro w mg fa h KX G hmg
  refine' My.all_mk KX G hmg ?a0 ?l0 ?c0 ?k0 ?a1 ?l1 ?c1 ?k1 ?a2 ?l2 ?c2 ?k2 ?a3 ?l3 ?c3 ?k3 ?a4 ?l4 ?c4 ?k4 ?a5 ?l5 ?c5 ?k5 ?a6 ?l6 ?c6 ?k6 ?a7 ?l7 ?c7 ?k7 ?a8 ?l8 ?c8 ?k8 ?a9 ?l9 ?c9 ?k9 ?a10 ?l10 ?c10 ?k10 ?a11 ?l11 ?c11 ?k11 ?a12 ?l12 ?c12 ?k12 ?a13 ?l13 ?c13 ?k13 ?a14 ?l14 ?c14 ?k14 ?a15 ?l15 ?c15 ?k15 ?a16 ?l16 ?c16 ?k16 ?a17 ?l17 ?c17 ?k17 ?a18 ?l18 ?c18 ?k18 ?a19 ?l19 ?c19 ?k19 ?a20 ?l20 ?c20 ?k20 ?a21 ?l21 ?c21 ?k21 ?a22 ?l22 ?c22 ?k22 ?a23 ?l23 ?c23 ?k23 ?a24 ?l24 ?c24 ?k24 ?a25 ?l25 ?c25 ?k25 ?a26 ?l26 ?c26 ?k26 ?a27 ?l27 ?c27 ?k27 ?a28 ?l28 ?c28 ?k28 ?a29 ?l29 ?c29 ?k29 ?a30 ?l30 ?c30 ?k30 ?a31 ?l31 ?c31 ?k31 ?a32 ?l32 ?c32 ?k32 ?z0 ?z1 ?z2 ?z3 ?z4 ?z5 ?z6 ?z7 ?z8 ?z9 ?z10 ?z11 ?z12 ?z13 ?z14 ?gc0 ?gc1 ?gc2 ?gc3 ?gc4 ?gc5 ?gc6 ?gc7 ?xq0 ?xq1 ?xq2 ?xq3 ?xq4 ?xq5 ?xq6 ?xq7 ?xq8 ?xq9 ?xq10 ?xq11 ?xq12 ?xq13 ?xq14 ?xq15 ?xq16 ?xq17 ?xq18 ?xq19
  (case a0=>k_is);(case l0=>k_is);(case c0=>k_is);(case k0=>k_is)
  (case a1=>k_is);(case l1=>k_is);(case c1=>k_is);(case k1=>k_is)
  (case a2=>k_is);(case l2=>k_is);(case c2=>k_is);(case k2=>k_is)
  (case a3=>k_is);(case l3=>k_is);(case c3=>k_is);(case k3=>k_is)
  (case a4=>k_is);(case l4=>k_is);(case c4=>k_is);(case k4=>k_is)
  (case a5=>k_is);(case l5=>k_is);(case c5=>k_is);(case k5=>k_is)
  (case a6=>k_is);(case l6=>k_is);(case c6=>k_is);(case k6=>k_is)
  (case a7=>k_is);(case l7=>k_is);(case c7=>k_is);(case k7=>k_is)
  (case a8=>k_is);(case l8=>k_is);(case c8=>k_is);(case k8=>k_is)
  (case a9=>k_is);(case l9=>k_is);(case c9=>k_is);(case k9=>k_is)
  (case a10=>k_is);(case l10=>k_is);(case c10=>k_is);(case k10=>k_is)
  (case a11=>k_is);(case l11=>k_is);(case c11=>k_is);(case k11=>k_is)
  (case a12=>k_is);(case l12=>k_is);(case c12=>k_is);(case k12=>k_is)
  (case a13=>k_is);(case l13=>k_is);(case c13=>k_is);(case k13=>k_is)
  (case a14=>k_is);(case l14=>k_is);(case c14=>k_is);(case k14=>k_is)
  (case a15=>k_is);(case l15=>k_is);(case c15=>k_is);(case k15=>k_is)
  (case a16=>k_is);(case l16=>k_is);(case c16=>k_is);(case k16=>k_is)
  (case a17=>k_is);(case l17=>k_is);(case c17=>k_is);(case k17=>k_is)
  (case a18=>k_is);(case l18=>k_is);(case c18=>k_is);(case k18=>k_is)
  (case a19=>k_is);(case l19=>k_is);(case c19=>k_is);(case k19=>k_is)
  (case a20=>k_is);(case l20=>k_is);(case c20=>k_is);(case k20=>k_is)
  (case a21=>k_is);(case l21=>k_is);(case c21=>k_is);(case k21=>k_is)
  (case a22=>k_is);(case l22=>k_is);(case c22=>k_is);(case k22=>k_is)
  (case a23=>k_is);(case l23=>k_is);(case c23=>k_is);(case k23=>k_is)
  (case a24=>k_is);(case l24=>k_is);(case c24=>k_is);(case k24=>k_is)
  (case a25=>k_is);(case l25=>k_is);(case c25=>k_is);(case k25=>k_is)
  (case a26=>k_is);(case l26=>k_is);(case c26=>k_is);(case k26=>k_is)
  (case a27=>k_is);(case l27=>k_is);(case c27=>k_is);(case k27=>k_is)
  (case a28=>k_is);(case l28=>k_is);(case c28=>k_is);(case k28=>k_is)
  (case a29=>k_is);(case l29=>k_is);(case c29=>k_is);(case k29=>k_is)
  (case a30=>k_is);(case l30=>k_is);(case c30=>k_is);(case k30=>k_is)
  (case a31=>k_is);(case l31=>k_is);(case c31=>k_is);(case k31=>k_is)
  (case a32=>k_is);(case l32=>k_is);(case c32=>k_is);(case k32=>k_is)
  (case z0=>k_is)
  (case z1=>k_is)
  (case z2=>k_is)
  (case z3=>k_is)
  (case z4=>k_is)
  (case z5=>k_is)
  (case z6=>k_is)
  (case z7=>k_is)
  (case z8=>k_is)
  (case z9=>k_is)
  (case z10=>k_is)
  (case z11=>k_is)
  (case z12=>k_is)
  (case z13=>k_is)
  (case z14=>k_is)
  (case gc0=>k_is)
  (case gc1=>k_is)
  (case gc2=>k_is)
  (case gc3=>k_is)
  (case gc4=>k_is)
  (case gc5=>k_is)
  (case gc6=>k_is)
  (case gc7=>k_is)
  (case xq0=>first|k_is|rfl|kernel_rfl)
  (case xq1=>first|k_is|rfl|kernel_rfl)
  (case xq2=>first|k_is|rfl|kernel_rfl)
  (case xq3=>first|k_is|rfl|kernel_rfl)
  (case xq4=>first|k_is|rfl|kernel_rfl)
  (case xq5=>first|k_is|rfl|kernel_rfl)
  (case xq6=>first|k_is|rfl|kernel_rfl)
  (case xq7=>first|k_is|rfl|kernel_rfl)
  (case xq8=>first|k_is|rfl|kernel_rfl)
  (case xq9=>first|k_is|rfl|kernel_rfl)
  (case xq10=>first|k_is|rfl|kernel_rfl)
  (case xq11=>first|k_is|rfl|kernel_rfl)
  (case xq12=>first|k_is|rfl|kernel_rfl)
  (case xq13=>first|k_is|rfl|kernel_rfl)
  (case xq14=>first|k_is|rfl|kernel_rfl)
  (case xq15=>first|k_is|rfl|kernel_rfl)
  (case xq16=>first|k_is|rfl|kernel_rfl)
  (case xq17=>first|k_is|rfl|kernel_rfl)
  (case xq18=>first|k_is|rfl|kernel_rfl)
  (case xq19=>first|k_is|rfl|kernel_rfl)
